/- Merged: UgFound, RegMark, MtPlain, MtR, MtM, UyA, UyR1, UyR2. -/
import Derived.Test.YtdcfemojkdoakaaDoorVm5
import Derived.Test.YtdcfemojkdoakaaDoorVm8
import Derived.Test.YtdcfemojkdoakaaDoorVm3
import Derived.LoopNIn
import Derived.LoopIn
import Derived.Test.YtdcfemojkdoakaaDoorVm4
import Derived.Test.YtdcfemojkdoakaaDoorVm6
import Derived.Test.YtdcfemojkdoakaaDoorVm7
import Derived.Deep.AppendLies
/- found: what the graph has come to. -/
namespace Go.Proofs.YtdcfemojkdoakaaDoor
open Go.RowKit Go.Maps Go.Sort Go.Lib
attribute [local go_sem] Oper.semAt_some

set_option maxRecDepth 100000 in
set_option maxHeartbeats 8000000 in
theorem found_gen {B : Nat} {G : Gr} {rt : Nat → Nat} {σ : Sg} {E c g mb p cap : Nat} {sl : Nat → Value} {w : World} {v : Value} {ls : List Nat} (h : GM B G rt E c g mb (.slice (some ⟨p, 0, none⟩) G.N cap) sl w) (gi : GI G rt) (hsi : SI G σ rt) (hE : ∀ i, i < G.N → (G.ag i).length ≤ 1000000) (hN : G.N ≤ 1000000) (hN0 : 0 < G.N) (hv : PlcAt w v ls) (hlt : ls.length ≤ G.N ∧ ∀ i ∈ ls, i < G.N ∧ rt i = i) (htop : ∀ q (hq : q < ls.length), ∀ x ∈ G.ag ls[q], ∃ p, ∃ hp : p < ls.length, q < p ∧ ls[p] = rt x)
    (hall : ∀ i, i < G.N → rt i = i → i ∈ ls) {V : List ByteArray} (hVI : VarIn V G) (hVl : V.length < 20) (hVz : ∀ x ∈ V, tsize (σ x) ≤ 900000000) :
    Calls Tryd.prog 50 #[gp g, v] w fun e w' => (∃ sv d, e = .returned (.agg #[sv]) ∧ SubAt sv d w' ∧ IsSg d σ) ∧ Below B w w' := by
  have HG := Lib.hid h; have HI := Lib.hid gi
  have y0 := h.top0
  have hg := h.lt
  have hpt := (h.part hN0).1
  have hcp := (h.part hN0).2.1
  obtain ⟨va, vc, q, rfl, hq, hrow⟩ := plc_row hv
  have hqn : q ≠ p ∧ q ≤ w.heap.size := by
    obtain ⟨cur, hc⟩ := h.kind
    rcases hq with rfl | ⟨cs, fz, hq⟩
    · exact ⟨by omega, Nat.le_refl _⟩
    · refine ⟨fun e => ?_, Nat.le_of_lt (Array.getElem?_eq_some_iff.1 hq).1⟩
      subst e; rw [hc] at hq; cases hq
  have hbs : B ≤ w.heap.size := by have := h.bg; omega
  have hmb : mb < w.heap.size := by obtain ⟨_, _, _, f, _, k, _⟩ := h; exact k.lt
  have hmk : ∀ W : World, (Instr.makeSlice 27 (.int .i64 (G.N : Int)) (.int .i64 (G.N : Int))).run Tryd.prog W = .ok (.slice (some ⟨W.heap.size, 0, none⟩) G.N G.N) (W.alloc (.cells (zeros G.N) 29)) := fun W => make_row3 G.N (by omega) W
  have HRow := Lib.hid hrow; have HV := Lib.hid hv; have HLt := Lib.hid hlt; have HSI := Lib.hid hsi; have HTop := Lib.hid htop; have HEE := Lib.hid hE; have HAll := Lib.hid hall; have HVI := Lib.hid (And.intro hVI (And.intro hVl hVz))
  clear hall hVI hVl hVz h gi hsi htop hrow hq hv hlt hE
  refine (callsIn_wide (n := 3)).1 ?_
  refine callsIn_of_wp_marks Tryd.func50 rfl trivial ?_ rfl
  simp only [Tryd.ntmps50, List.size_toArray, List.length_cons, List.length_nil, Nat.reduceAdd, Nat.reduceSub, Array.replicate_succ, Array.replicate_zero, List.push_toArray, List.append_toArray, List.nil_append, List.cons_append]
  gi_wp2_with (refine ⟨trivial, ?_⟩; gi_at_call 80; refine (callsIn_wide.2 (backwardI_any _ _ _ _)).mono ?_; rintro e1 w1 ⟨rfl, rfl⟩)
  have HF0 := FI.start HG.out hbs σ ls va ls.length vc
  have hBn : (((((w.alloc (.cells #[gp g] 122)).alloc (.cells #[.slice none 0 0] 33)).alloc (.cells (zeros G.N) 29)).alloc (.cells #[.slice (some ⟨w.heap.size + 1 + 1, 0, none⟩) G.N G.N] 27)).alloc (.cells #[.slice va ls.length vc] 22)).heap[w.heap.size + 1 + 1 + 1 + 1]? = some (.cells #[.slice va ls.length vc] 22 (0, 0)) := by
    have := alloc_new ((((w.alloc (.cells #[gp g] 122)).alloc (.cells #[.slice none 0 0] 33)).alloc (.cells (zeros G.N) 29)).alloc (.cells #[.slice (some ⟨w.heap.size + 1 + 1, 0, none⟩) G.N G.N] 27)) (.cells #[.slice va ls.length vc] 22)
    simpa using this
  have hsz : (((((w.alloc (.cells #[gp g] 122)).alloc (.cells #[.slice none 0 0] 33)).alloc (.cells (zeros G.N) 29)).alloc (.cells #[.slice (some ⟨w.heap.size + 1 + 1, 0, none⟩) G.N G.N] 27)).alloc (.cells #[.slice va ls.length vc] 22)).heap.size = w.heap.size + 1 + 1 + 1 + 1 + 1 := by simp
  have hB0 : Below w.heap.size w (((((w.alloc (.cells #[gp g] 122)).alloc (.cells #[.slice none 0 0] 33)).alloc (.cells (zeros G.N) 29)).alloc (.cells #[.slice (some ⟨w.heap.size + 1 + 1, 0, none⟩) G.N G.N] 27)).alloc (.cells #[.slice va ls.length vc] 22)) := (((((Below.refl w.heap.size w).alloc (Nat.le_refl _) _).alloc (by simp) _).alloc (by simp; omega) _).alloc (by simp; omega) _).alloc (by simp; omega) _
  obtain ⟨W0, hW0⟩ : ∃ W0, (((((w.alloc (.cells #[gp g] 122)).alloc (.cells #[.slice none 0 0] 33)).alloc (.cells (zeros G.N) 29)).alloc (.cells #[.slice (some ⟨w.heap.size + 1 + 1, 0, none⟩) G.N G.N] 27)).alloc (.cells #[.slice va ls.length vc] 22)) = W0 := ⟨_, rfl⟩
  rw [hW0] at HF0 hBn hsz hB0 ⊢
  clear hW0
  have hc7 : W0.cell? ⟨w.heap.size + 1 + 1 + 1 + 1, 0, none⟩ = some (.slice va ls.length vc) := by rw [Lib.cell_of_heap hBn]; rfl
  have hr0 : ∀ i, i < ls.length → va = some ⟨q, 0, none⟩ ∧ ls.length ≤ vc ∧ W0.cell? ⟨q, i, none⟩ = some (.int .i64 (ls.getD i 0 : Nat)) := fun i hi => by
    obtain ⟨f1, f2, f3⟩ := HRow.out i hi
    exact ⟨f1, f2, (hB0.cell (p := ⟨q, i, none⟩) (World.block_lt_of_cell? _ _ f3)).trans f3⟩
  refine range_toldN (n := 3) (σ := Unit) (by omega) (gf := 96) (lb := #[.pointer (some ⟨w.heap.size + 1 + 1 + 1 + 1, 0, none⟩)]) rfl (enters_of Tryd.func96 (by kernel_rfl) rfl)
    (backI_toldN 2 (by omega) ls (by have := HLt.out.1; omega) va vc q (w.heap.size + 1 + 1 + 1 + 1) W0 hc7 hr0)
    (fun k hk => by rcases hk with rfl | rfl <;> omega) (Below.refl _ _) (fun x => rfl)
    (fun _ pre X => FI B G rt E c g mb p cap sl σ ls w pre X)
    (fun _ _ => False)
    (fun _ k => k = p ∨ k = w.heap.size + 1 + 1)
    ?hI ?hIx ?hT ⟨(), HF0⟩
    (fun i a' W => a' = { tmps := #[gp g, .slice va ls.length vc, .pointer (some ⟨w.heap.size, 0, none⟩), undef, .pointer (some ⟨w.heap.size + 1, 0, none⟩), .pointer (some ⟨w.heap.size + 1 + 1 + 1, 0, none⟩), undef, .int .i64 (ls.getD i 0 : Nat), undef, undef, undef, undef, undef, undef, undef, gp g, .pointer (some ⟨g, 0, none⟩), .pointer (some ⟨g, 0, none⟩), .slice (some ⟨p, 0, none⟩) G.N cap, .int .i64 (G.N : Int), .slice (some ⟨w.heap.size + 1 + 1, 0, none⟩) G.N G.N, .slice va ls.length vc, .func (.func 96) #[] #[.pointer (some ⟨w.heap.size + 1 + 1 + 1 + 1, 0, none⟩)], .int .i64 (i : Int), .int .i64 (ls.getD i 0 : Nat), undef, undef, undef, undef, undef, undef, undef, undef, undef, undef, undef, undef, undef, undef, undef, undef, undef, undef, undef, undef, undef, undef, undef, undef, undef, undef, undef, undef, undef, undef, undef, undef, undef, undef, undef, undef, undef, undef, undef, undef, undef, undef, undef, undef, undef, undef, undef, undef, undef, undef, undef, undef, undef, undef, undef, undef, undef, undef, undef, undef, undef, undef, undef, undef, undef, undef], defers := [] })
    ?hAx ?assign ?body ?done ?stop
  case hI => exact fun _ pre X Y row h hg hr => h.kept hg hr (by omega) (by omega)
  case hIx => exact fun _ _ _ _ h => h.elim
  case hT =>
    rintro _ pre X k h (rfl | rfl)
    · exact ⟨(h.gm.part hN0).1, fun hk => by rcases hk with hk | hk <;> omega⟩
    · obtain ⟨_, _, _, _, _, hm⟩ := h.made
      exact ⟨hm.lt, fun hk => by rcases hk with hk | hk <;> omega⟩
  case hAx => exact fun x a' _ X Y row h _ _ => h
  case assign =>
    rintro l _ pre i X C hI0 hex hC
    dsimp only [encK]
    gi_wp2
    exact hC _ _ ((KeepsOthers.refl _).from _) (Below.refl _ _) rfl
  case body =>
    rintro l _ pre i a' X hF hlen hpre rfl
    obtain ⟨hgm, hb0, hb1, hb3, ⟨m, D, hm, hD, hD3, hmade⟩, hlow⟩ := hF
    have hi : i < ls.length := by have := pre_len hpre; omega
    have hmi : m = i + 1 := by have := pre_len hpre; have := pre_len hm; omega
    subst hmi
    obtain ⟨t, ht⟩ : ∃ t, ls.getD i 0 = t := ⟨_, rfl⟩
    have htm : t ∈ ls := by subst ht; simp [List.getD, hi]
    obtain ⟨htN, htr⟩ := HLt.out.2 t htm
    obtain ⟨hpX, _, pa, pc, x0, x1, x2, hpl⟩ := hgm.part htN
    obtain ⟨nx, x3⟩ := hgm.part4 htN
    have gt := hgm.top0
    have cb0 : X.cell? ⟨w.heap.size, 0, none⟩ = some (gp g) := by rw [Lib.cell_of_heap hb0]; rfl
    have cb3 : X.cell? ⟨w.heap.size + 1 + 1 + 1, 0, none⟩ = some (.slice (some ⟨w.heap.size + 1 + 1, 0, none⟩) G.N G.N) := by rw [Lib.cell_of_heap hb3]; rfl
    have l3 := (Array.getElem?_eq_some_iff.1 hb3).1
    have hgX := hgm.lt
    have htz : (t : Int) < (G.N : Int) := by omega
    have htz0 : (0 : Int) ≤ (t : Int) := by omega
    have hmk2 : ∀ W : World, (Instr.makeSlice 27 (.int .i64 ((G.ag t).length : Int)) (.int .i64 ((G.ag t).length : Int))).run Tryd.prog W = .ok (.slice (some ⟨W.heap.size, 0, none⟩) (G.ag t).length (G.ag t).length) (W.alloc (.cells (zeros (G.ag t).length) 29)) := fun W => make_row3 _ (by have := HEE.out t htN; omega) W
    obtain ⟨n, hn⟩ : ∃ n, (G.ag t).length = n := ⟨_, rfl⟩
    obtain ⟨tk, htk⟩ : ∃ k, (G.tr t).kind = k := ⟨_, rfl⟩
    obtain ⟨tn, htn⟩ : ∃ k, (G.tr t).name = k := ⟨_, rfl⟩
    have HGM := Lib.hid hgm; have Hb0 := Lib.hid hb0; have Hb1 := Lib.hid hb1; have Hb3 := Lib.hid hb3; have HMade := Lib.hid hmade; have HLow := Lib.hid hlow; have HPre := Lib.hid hpre; have HT := Lib.hid ht; have HN := Lib.hid hn; have HTK := Lib.hid htk; have HTN := Lib.hid htn
    have HPl := Lib.hid hpl
    rw [hn] at x2 hmk2; rw [htk] at x0; rw [htn] at x1
    rw [ht]
    clear hgm hb0 hb1 hb3 hmade hlow hpre ht hm htm hr0 hc7 hpl HF0 hBn hsz hB0 y0 hmk hn htk htn
    gi_wp2
    have hP : ((X.alloc (.cells #[.int .i64 tk, .string tn, .slice pa n pc, .int .i64 (nx : Int)] 128)).alloc (.cells (zeros n) 29)).heap[X.heap.size]? = some (.cells #[.int .i64 tk, .string tn, .slice pa n pc, .int .i64 (nx : Int)] 128 (0, 0)) := by
      rw [Below.heap_alloc _ _ _ (by simp)]; exact alloc_new X _
    have hR : ((X.alloc (.cells #[.int .i64 tk, .string tn, .slice pa n pc, .int .i64 (nx : Int)] 128)).alloc (.cells (zeros n) 29)).heap[X.heap.size + 1]? = some (.cells (zeros n) 29 (0, 0)) := by
      have := alloc_new (X.alloc (.cells #[.int .i64 tk, .string tn, .slice pa n pc, .int .i64 (nx : Int)] 128)) (.cells (zeros n) 29)
      simpa using this
    have hsX : ((X.alloc (.cells #[.int .i64 tk, .string tn, .slice pa n pc, .int .i64 (nx : Int)] 128)).alloc (.cells (zeros n) 29)).heap.size = X.heap.size + 1 + 1 := by simp
    have hbX : Below X.heap.size X ((X.alloc (.cells #[.int .i64 tk, .string tn, .slice pa n pc, .int .i64 (nx : Int)] 128)).alloc (.cells (zeros n) 29)) := ((Below.refl _ X).alloc (Nat.le_refl _) _).alloc (by simp) _
    have hoX : KeepsOthers X ((X.alloc (.cells #[.int .i64 tk, .string tn, .slice pa n pc, .int .i64 (nx : Int)] 128)).alloc (.cells (zeros n) 29)) := (KeepsOthers.alloc X _).trans (KeepsOthers.alloc _ _)
    obtain ⟨X1, hX1⟩ : ∃ X1, (X.alloc (.cells #[.int .i64 tk, .string tn, .slice pa n pc, .int .i64 (nx : Int)] 128)).alloc (.cells (zeros n) 29) = X1 := ⟨_, rfl⟩
    rw [hX1] at hP hR hsX hbX hoX ⊢
    clear hX1
    have HP1 := Lib.hid hP; have HbX := Lib.hid hbX; have HoX := Lib.hid hoX
    have HL0 : LI B G rt E c g mb p cap sl (w.heap.size + 1 + 1) (X.heap.size + 1) ((G.ag t).map fun x => sub σ (G.tr (rt x))) X1 0 X1 := LI.start (HGM.out.keep hbX) hR (by rw [List.length_map]; exact HN.out.symm)
    clear hP hR hbX hoX x0 x1 x2 x3 gt cb0 cb3 hmk2
    gi_loopw [39] (fun vi wr => ∃ j : Nat, vi = .int .i64 (j : Int) ∧ j ≤ n ∧ LI B G rt E c g mb p cap sl (w.heap.size + 1 + 1) (X.heap.size + 1) ((G.ag t).map fun x => sub σ (G.tr (rt x))) X1 j wr) (fun vi _ => n - (intOf vi).toNat)
    case atStart => exact ⟨0, rfl, Nat.zero_le _, HL0⟩
    case round =>
      obtain ⟨j, rfl, hj, hG2, hRow, hK, hBel, hKo⟩ := hrel
      clear HL0
      have kp : ∀ {k : Nat} {o : Obj}, X.heap[k]? = some o → k ≠ p → wr.heap[k]? = some o := fun {k o} hk hkp => by
        have h1 := (Array.getElem?_eq_some_iff.1 hk).1
        exact (hK k (by omega) hkp).trans ((HbX.out.block k h1).trans hk)
      have hb0' := kp Hb0.out (by omega)
      have hb3' := kp Hb3.out (by omega)
      have cb0 : wr.cell? ⟨w.heap.size, 0, none⟩ = some (gp g) := by rw [Lib.cell_of_heap hb0']; rfl
      have cb3 : wr.cell? ⟨w.heap.size + 1 + 1 + 1, 0, none⟩ = some (.slice (some ⟨w.heap.size + 1 + 1, 0, none⟩) G.N G.N) := by rw [Lib.cell_of_heap hb3']; rfl
      by_cases hlt : j < n
      · have hjz : (j : Int) < (n : Int) := by omega
        have hpk : ∀ (k : Nat) (cs : Array Value) (fz : Nat × Nat), X.heap[k]? = some (.cells cs 3 fz) → wr.heap[k]? = some (.cells cs 3 fz) := fun k cs fz hk => kp hk (by
          rintro rfl
          obtain ⟨cur, hc⟩ := HGM.out.kind
          rw [hc] at hk; cases hk)
        obtain ⟨q', cap', e, hq', hc', hx⟩ := (HPl.out.keep hpk).row (k := j) (by rw [HN.out]; exact hlt)
        rw [HN.out] at hc'
        obtain ⟨rfl, rfl⟩ : pa = some ⟨q', 0, none⟩ ∧ pc = cap' := by injection e with e1 e2 e3; exact ⟨e1, e3⟩
        clear e
        have hjl : j < (G.ag t).length := by rw [HN.out]; exact hlt
        obtain ⟨x, hxe⟩ : ∃ x, (G.ag t)[j] = x := ⟨_, rfl⟩
        rw [hxe] at hx
        have hxm : x ∈ G.ag t := by rw [← hxe]; exact List.getElem_mem hjl
        have hxN : x < G.N := HI.out.ok.arg htN hxm
        have hdn : dnOf ls (i + 1) (rt x) := by
          have e2 : ls[i] = t := by have := HT.out; simpa [List.getD, hi] using this
          obtain ⟨p', hp', h1, h2⟩ := HTop.out i hi x (by rw [e2]; exact hxm)
          exact ⟨p', by omega, hp', by simp [List.getD, hp', h2]⟩
        have hrx := HI.out.lt x hxN
        have hmw : MadeAt (w.heap.size + 1 + 1) D G.N (fun i => sub σ (G.tr i)) (dnOf ls (i + 1)) wr := HMade.out.keep (fun k cs fz hk1 hk2 hk => kp hk (by omega)) (Nat.le_refl _)
        have HRow := Lib.hid hRow; have HMw := Lib.hid hmw; have HXE := Lib.hid hxe; have HK := Lib.hid hK; have HBel := Lib.hid hBel; have HKo := Lib.hid hKo; have HG2 := Lib.hid hG2
        have Hb3' := Lib.hid hb3'; have HDn := Lib.hid hdn
        have hwr3 := (Array.getElem?_eq_some_iff.1 hb3').1
        have hwr0 := (Array.getElem?_eq_some_iff.1 hb0').1
        have HC := Lib.hid (root_any hG2.drew hxN)
        have hjm : j < ((G.ag t).map fun x => sub σ (G.tr (rt x))).length := by rw [List.length_map, HN.out]; exact hlt
        have hrz : ((rt x : Nat) : Int) < (G.N : Int) := by omega
        have hrz0 : (0 : Int) ≤ ((rt x : Nat) : Int) := by omega
        clear hRow hmw hxe hK hBel hKo hG2 hb3' hb0' hpk hdn hxm kp
        have hXw : X.heap.size ≤ wr.heap.size := by have := HBel.out.size; omega
        obtain ⟨a9, c9, m0, m1, m2, mT⟩ := HMw.out.get hrx HDn.out
        obtain ⟨r0, r1, r2, s0, s1, s2, fr0, fr1, fr2⟩ := HRow.out.cells hjm
        have hlj : ((G.ag t).map fun x => sub σ (G.tr (rt x)))[j] = sub σ (G.tr (rt x)) := by rw [List.getElem_map, HXE.out]
        obtain ⟨u, hu⟩ : ∃ u, sub σ (G.tr (rt x)) = u := ⟨_, rfl⟩
        rw [hu] at m0 m1 m2 mT hlj
        have hFC : FC p w.heap.size (w.heap.size + 1 + 1 + 1) (w.heap.size + 1 + 1) (X.heap.size + 1) G.N j (rt x) g u a9 c9 wr := ⟨cb0, cb3, m0, m1, m2, ⟨_, s0⟩, ⟨_, s1⟩, ⟨_, s2⟩, fr0, fr1, fr2, by omega, by omega, by omega, by omega⟩
        have HFC := Lib.hid hFC; have HTy := Lib.hid mT; have HLj := Lib.hid hlj
        clear m0 m1 m2 mT r0 r1 r2 s0 s1 s2 fr0 fr1 fr2 hFC hlj hu
        gi_wp2
        refine fnd_here (B := B) (G := G) (rt := rt) (E := E) (c := c) (g := g) (mb := mb) (p := p) (cap := cap) (sl := sl) (b2 := w.heap.size) (b5 := w.heap.size + 1 + 1 + 1) (M := w.heap.size + 1 + 1) (R := X.heap.size + 1) (j := j) (n := n) (ix := x) (u := u) (ad := a9) (ac := c9) (wr := wr) hjz hrz
          (fun V h => (root_any h.1 hxN).mono fun e Y h => h) wr (by kernel_rfl) (by kernel_rfl) (by kernel_rfl) (by kernel_rfl) (by kernel_rfl) (by kernel_rfl) (by kernel_rfl) (FSt.start HG2.out HFC.out) ?_
        intro xv V hV hx7
        have hN := LI.next HGM.out (Nat.le_succ _) ⟨HG2.out, HRow.out, HK.out, HBel.out, HKo.out⟩ hV.1 hV.2.1 hjm HLj.out ((HTy.out.keep (fun k _ _ hk hh => (hV.2.1.2 k (by have := hk.2; have := hD; omega) (by have := hk.1; omega)).trans hh)).mono (fun k hk => ⟨⟨hk.1, by have := hk.2; omega⟩, by have := hk.2; have := hV.2.1.1.size; omega⟩)) (by omega) (by omega)
        have HNx := Lib.hid hN
        clear hN hV HFC HTy HLj HMw HG2 HRow HK HBel HKo Hb3' HC
        simp only [fndFr, hx7]
        simp only [Array.getD_eq_getD_getElem?, List.getElem?_toArray, List.getElem?_cons_succ, List.getElem?_cons_zero, Option.getD_some]
        gi_wp2
        have h6 : n ≤ 1000000 := by rw [← HN.out]; exact HEE.out t htN
        have hwj : wrap64 ((j : Int) + 1) = ((j + 1 : Nat) : Int) := by unfold wrap64; omega
        have hj1 : j + 1 ≤ n := hlt
        rw [hwj]
        clear h6 hwj
        exact ⟨⟨j + 1, rfl, hj1, HNx.out⟩, Nat.sub_lt_sub_left hlt (Nat.lt_succ_self j)⟩
      · have hjz : ¬ ((j : Int) < (n : Int)) := by omega
        have hjn : j = n := by omega
        have hXw : X.heap.size ≤ wr.heap.size := by have := hBel.size; omega
        have hP1 := (hK X.heap.size (by omega) (by omega)).trans HP1.out
        have p0 : wr.cell? ⟨X.heap.size, 0, none⟩ = some (.int .i64 tk) := by rw [Lib.cell_of_heap hP1]; rfl
        have p1 : wr.cell? ⟨X.heap.size, 1, none⟩ = some (.string tn) := by rw [Lib.cell_of_heap hP1]; rfl
        have hmw : MadeAt (w.heap.size + 1 + 1) D G.N (fun i => sub σ (G.tr i)) (dnOf ls (i + 1)) wr := HMade.out.keep (fun k cs fz hk1 hk2 hk => kp hk (by omega)) (Nat.le_refl _)
        obtain ⟨_, _, _, z0, z1, z2, f0, f1, f2⟩ := hmw.cells htN
        have hBp : B ≤ p := by obtain ⟨_, _, ⟨_, _, _, r, _⟩, _⟩ := HG.out; exact (r.lt p rfl).1
        have HLI : Hid (LI B G rt E c g mb p cap sl (w.heap.size + 1 + 1) (X.heap.size + 1) ((G.ag t).map fun x => sub σ (G.tr (rt x))) X1 j wr) := Lib.hid ⟨hG2, hRow, hK, hBel, hKo⟩
        have HJN := Lib.hid hjn
        clear hRow hmw hK hBel hKo hG2 hb3' hb0' kp hP1 hlt hjn
        gi_wp2
        have hR := FI.round HI.out HSI.out Hb0.out Hb1.out Hb3.out HPre.out hD HMade.out HLow.out HbX.out HoX.out hsX (HJN.out ▸ HLI.out) HN.out htN htr HT.out HG.out hpt hBp HTK.out HTN.out
        exact ⟨hR.1.from _, hR.2.1, (), hR.2.2⟩
  case done =>
    rintro D _ xs W hD rfl hF hK
    obtain ⟨hgm, hb0, hb1, hb3, ⟨m, D2, hm, hD2, hD3, hmade⟩, hlow⟩ := hF
    have hm0 : m = 0 := by have := pre_len hm; simp at this; omega
    subst hm0
    have c0 : W.cell? ⟨w.heap.size, 0, none⟩ = some (gp g) := by rw [Lib.cell_of_heap hb0]; rfl
    have gt := hgm.top0
    have hgW := hgm.lt
    have hpW := (hgm.part hN0).1
    have hDW : D < W.heap.size := (Array.getElem?_eq_some_iff.1 hK).1
    have hMW := hmade.lt
    have HGW := Lib.hid hgm; have Hb0 := Lib.hid hb0; have Hb1 := Lib.hid hb1; have Hb3 := Lib.hid hb3; have HMade := Lib.hid hmade; have HLow := Lib.hid hlow; have HK := Lib.hid hK
    have HP0 : Hid (PS B G rt σ E c g mb p cap sl W 0 [] (.slice none 0 0) W) := Lib.hid (PS.start hgm)
    clear hgm hb0 hb1 hb3 hmade hlow hK hm hc7 hr0 hBn HF0 y0
    gi_wp2
    gi_loopw [12, 68] (fun vl vi wr => ∃ (k : Nat) (d : List PR), vi = .int .i64 (k : Int) ∧ k ≤ G.N ∧ PS B G rt σ E c g mb p cap sl W k d vl wr) (fun _ vi _ => G.N - (intOf vi).toNat)
    case atStart => exact ⟨0, [], rfl, Nat.zero_le _, HP0.out⟩
    case round =>
      obtain ⟨k, d, rfl, hk, hP⟩ := hrel
      have hwW := hP.fr.1.size
      have cb0 : wr.cell? ⟨w.heap.size, 0, none⟩ = some (gp g) := hP.fr.cell c0 (by omega)
      have l0 : w.heap.size < wr.heap.size := by omega
      have HP := Lib.hid hP
      by_cases hlt : k < G.N
      · have hkz : (k : Int) < (G.N : Int) := by omega
        have hkz0 : (0 : Int) ≤ (k : Int) := by omega
        obtain ⟨hpr, _, pa, pc, x0, x1, x2, _⟩ := hP.gm.part hlt
        obtain ⟨nx, x3⟩ := hP.gm.part4 hlt
        have gtr := hP.gm.top0
        have hgr := hP.gm.lt
        obtain ⟨n, hn⟩ : ∃ n, (G.ag k).length = n := ⟨_, rfl⟩
        obtain ⟨tk, htk⟩ : ∃ z, (G.tr k).kind = z := ⟨_, rfl⟩
        obtain ⟨tn, htn⟩ : ∃ z, (G.tr k).name = z := ⟨_, rfl⟩
        rw [hn] at x2; rw [htk] at x0; rw [htn] at x1
        have HTN := Lib.hid htn
        have hba : ∀ o : Obj, Below wr.heap.size wr (wr.alloc o) := fun o => (Below.refl _ wr).alloc (Nat.le_refl _) o
        have HBA := Lib.hid hba
        obtain ⟨vb, hvb⟩ : ∃ b, (G.tr k).isV = b := ⟨_, rfl⟩
        have HVB := Lib.hid hvb
        have hIV : ∀ o : Obj, Calls Tryd.prog 74 #[gp g, .int .i64 (k : Int)] (wr.alloc o) fun e w' => e = .returned (.bool vb) ∧ w' = wr.alloc o := fun o => by
          have := isVar_any (hP.gm.keep (hba o)) hlt
          rw [hvb] at this; exact this
        have HIV := Lib.hid hIV
        clear hP hn htk htn hba hvb hIV
        cases vb with
        | true =>
          gi_wp2_with (refine ⟨trivial, ?_⟩; gi_at_call 74; refine (callsIn_wide.2 (HIV.out _)).mono ?_; rintro e w1 ⟨rfl, rfl⟩)
          obtain ⟨X2, hX2⟩ : ∃ X2, wr.alloc (.cells #[.int .i64 tk, .string tn, .slice pa n pc, .int .i64 (nx : Int)] 128) = X2 := ⟨_, rfl⟩
          have hFa : Fr p wr X2 := by rw [← hX2]; exact Fr.of_below (HBA.out _)
          have hn1 : X2.cell? ⟨wr.heap.size, 1, none⟩ = some (.string tn) := by rw [← hX2, Lib.cell_of_heap (alloc_new wr _)]; rfl
          have hPX : PS B G rt σ E c g mb p cap sl W k d u12 X2 := by rw [← hX2]; exact HP.out.made (HBA.out _) hpW
          rw [hX2]
          have hrx := HI.out.lt k hlt
          have hdn : dnOf ls 0 (rt k) := by
            obtain ⟨q', hq1, hq2⟩ := List.getElem_of_mem (HAll.out (rt k) hrx (HI.out.fix k hlt))
            exact ⟨q', Nat.zero_le _, hq1, by simp [List.getD, hq1, hq2]⟩
          obtain ⟨a9, c9, m0, m1, m2, mT⟩ := (HMade.out.fr hPX.fr (by omega)).get hrx hdn
          have cb3 : X2.cell? ⟨w.heap.size + 1 + 1 + 1, 0, none⟩ = some (.slice (some ⟨w.heap.size + 1 + 1, 0, none⟩) G.N G.N) := hPX.fr.cell (by rw [Lib.cell_of_heap Hb3.out]; rfl) (by omega)
          have hTC : TC p w.heap.size (w.heap.size + 1 + 1 + 1) wr.heap.size (w.heap.size + 1 + 1) G.N (rt k) g ⟨tn, sub σ (G.tr (rt k)), a9, c9⟩ X2 := ⟨hFa.cell cb0 (by omega), cb3, m0, m1, m2, hn1, by omega, by omega, by omega, by omega, by have := hFa.1.size; omega⟩
          have hrz : ((rt k : Nat) : Int) < (G.N : Int) := by omega
          have hdl : d.length ≤ 1000 := by have := hPX.pl.small (by omega) HVI.out.1; have := HVI.out.2.1; omega
          refine wpIn_wide.2 ?_
          refine trd_here (B := B) (G := G) (rt := rt) (E := E) (c := c) (g := g) (mb := mb) (p := p) (cap := cap) (sl := sl) (b2 := w.heap.size) (b5 := w.heap.size + 1 + 1 + 1) (b14 := wr.heap.size) (M := w.heap.size + 1 + 1) (base := W.heap.size) (ix := k) (pr := ⟨tn, sub σ (G.tr (rt k)), a9, c9⟩) (ds := d) (lv := u12) (wr := X2) hrz hPX.own hpW hPX.fr.1.size hdl
            (fun V h => (root_any h.1 hlt).mono fun e Y h => h) X2 (by kernel_rfl) (by kernel_rfl) (by kernel_rfl) (by kernel_rfl) (by kernel_rfl) (by kernel_rfl) (by kernel_rfl) (TSt.start hPX.gm hTC) ?_
          intro xv V9 g9 c9' w9 hV9 ho9 hg9
          have hvar : G.tr k = .var tn := by
            have := isV_var HVB.out
            rw [this]; exact congrArg T.var HTN.out
          have hsx : sub σ (G.tr (rt k)) = σ tn := by rw [← HSI.out.root HI.out hlt, hvar]; rfl
          have hN9 := PS.next (x := ⟨tn, sub σ (G.tr (rt k)), a9, c9⟩) hPX HI.out HGW.out hpW ⟨hV9.1, hV9.2.1⟩ ho9 hg9 hlt hvar hsx ((mT.keep (fun k _ _ hk hh => (hV9.2.1.2 k (Array.getElem?_eq_some_iff.1 hh).1 (by have := hk.1; omega)).trans hh)).tys)
          have HN9 := Lib.hid hN9
          have hlt' : k + 1 ≤ G.N := hlt
          clear hN9 hsx hvar hV9 ho9 hg9 hTC hPX hFa hX2 hn1 m0 m1 m2 mT cb3 HIV HBA hdn
          simp only [trdFr, Act.put, List.setIfInBounds_toArray, List.set_cons_zero, List.set_cons_succ]
          simp only [Array.getD_eq_getD_getElem?, List.getElem?_toArray, List.getElem?_cons_succ, List.getElem?_cons_zero, Option.getD_some]
          gi_wp2
          rw [show (k : Int) + 1 = ((k + 1 : Nat) : Int) from (Int.natCast_succ k).symm]
          exact ⟨⟨k + 1, d ++ [⟨tn, sub σ (G.tr (rt k)), a9, c9⟩], rfl, hlt', HN9.out⟩, Nat.sub_lt_sub_left hlt (Nat.lt_succ_self k)⟩
        | false =>
          gi_wp2_with (refine ⟨trivial, ?_⟩; gi_at_call 74; refine (callsIn_wide.2 (HIV.out _)).mono ?_; rintro e w1 ⟨rfl, rfl⟩)
          have hlt' : k + 1 ≤ G.N := hlt
          have hPX := (HP.out.made (HBA.out (.cells #[.int .i64 tk, .string tn, .slice pa n pc, .int .i64 (nx : Int)] 128)) hpW).skip HVB.out
          rw [show (k : Int) + 1 = ((k + 1 : Nat) : Int) from (Int.natCast_succ k).symm]
          exact ⟨⟨k + 1, d, rfl, hlt', hPX⟩, Nat.sub_lt_sub_left hlt (Nat.lt_succ_self k)⟩
      · have hkz : ¬ ((k : Int) < (G.N : Int)) := by omega
        have hkN : k = G.N := by omega
        subst hkN
        obtain ⟨q1, q2, q3, q4, q5, q6⟩ := hP.ready HSI.out HVI.out.1 HVI.out.2.1 HVI.out.2.2
        have HOF := Lib.hid (of_any q1 q2 q3 q4 q5)
        have HQ6 := Lib.hid q6
        have hb1r : wr.heap[w.heap.size + 1]? = some (.cells #[.slice none 0 0] 33 (0, 0)) := (hP.fr.2 _ (by omega) (by omega)).trans Hb1.out
        have Hb1r := Lib.hid hb1r
        clear hP q1 q2 q3 q4 q5 q6 hb1r
        gi_wp2_with (refine ⟨trivial, ?_⟩; gi_at_call 81; refine (callsIn_wide.2 HOF.out).mono ?_; rintro e w2 ⟨⟨sv, l9, rfl, hs9, hm9⟩, hb9⟩; obtain ⟨sa, sc, rfl⟩ := hs9.shape; have hb1s := (hb9.block _ (Array.getElem?_eq_some_iff.1 Hb1r.out).1).trans Hb1r.out; have z0 : w2.cell? ⟨w.heap.size + 1, 0, none⟩ = some (.slice none 0 0) := (by rw [Lib.cell_of_heap hb1s]; rfl); have z1 := Lib.frozen_of_heap hb1s 0; have HS9 := Lib.hid hs9; have HM9 := Lib.hid hm9; have HB9 := Lib.hid hb9; have HB1s := Lib.hid hb1s; clear hs9 hm9 hb9 hb1s)
        have hs' := HS9.out.other (x := .slice sa l9.length sc) HB1s.out
        have hDr : D ≠ w.heap.size + 1 := by omega
        have hKr : wr.heap[D]? = some (.deferred (some [])) := (HP.out.fr.2 D hDW (by omega)).trans HK.out
        have hK2 : w2.heap[D]? = some (.deferred (some [])) := (HB9.out.block D (by omega)).trans hKr
        have hKZ : (w2.setCell ⟨w.heap.size + 1, 0, none⟩ (.slice sa l9.length sc)).heap[D]? = some (.deferred (some [])) := (Below.heap_setCell _ ⟨w.heap.size + 1, 0, none⟩ _ D hDr).trans hK2
        have hZ1 : (w2.setCell ⟨w.heap.size + 1, 0, none⟩ (.slice sa l9.length sc)).heap[w.heap.size + 1]? = some (.cells #[.slice sa l9.length sc] 33 (0, 0)) := blk_set HB1s.out _
        have hBZ : Below B w (w2.setCell ⟨w.heap.size + 1, 0, none⟩ (.slice sa l9.length sc)) := ((HLow.out.trans (HP.out.fr.below (by have := HGW.out.bp; omega) (by omega))).trans (HB9.out.mono (by omega))).setCell (p := ⟨w.heap.size + 1, 0, none⟩) (by show B ≤ w.heap.size + 1; omega) _
        obtain ⟨Z, hZ⟩ : ∃ Z, w2.setCell ⟨w.heap.size + 1, 0, none⟩ (.slice sa l9.length sc) = Z := ⟨_, rfl⟩
        rw [hZ] at hs' hKZ hZ1 hBZ ⊢
        clear hZ
        have hoth : ∀ k, k ≠ D → (Z.putObj D (.deferred none)).heap[k]? = Z.heap[k]? := fun k hk => World.putObj_heap_other hk
        have hs2 := hs'.turn (w' := Z.putObj D (.deferred none)) (fun k cs T fz hk => (hoth k (fun e => by subst e; rw [hKZ] at hk; cases hk)).trans hk)
        have hZ2 := (hoth _ (Ne.symm hDr)).trans hZ1
        have d2 : (Z.putObj D (.deferred none)).cell? ⟨w.heap.size + 1, 0, none⟩ = some (.slice sa l9.length sc) := by rw [Lib.cell_of_heap hZ2]; rfl
        have hB2 : Below B Z (Z.putObj D (.deferred none)) := ⟨rfl, rfl, rfl, by simp [World.putObj], fun k hk => hoth k (by omega)⟩
        refine ⟨by simp, .inl ⟨_, _, rfl, run_takeDeferred hKZ, ?_⟩⟩
        exact ⟨.agg #[.slice sa l9.length sc], by simp [results, Tryd.results50, go_sem, d2], ⟨_, _, rfl, hs2, fun n => (HM9.out.same n).trans (HQ6.out n)⟩, hBZ.trans hB2⟩
  case stop =>
    rintro D pre W hD _ h
    exact h.elim
/-- The contract of found holds. -/
theorem found_ok : FoundOK := fun _ _ _ _ _ _ _ _ _ _ _ _ _ _ _ _ hsi _ ag hN0 hv hlt hall htop hVl hz hS =>
  (found_gen ag.gm ag.gi hsi (fun i hi => Nat.le_trans (ag.hE i hi) (Nat.le_trans ag.e hS)) (Nat.le_trans ag.n hS) hN0 hv hlt htop hall ag.vars hVl hz).mono fun _ _ h => h
/-- The program's Unify answers as the document's. -/
theorem puni_ok : PUni := puni found_ok
end Go.Proofs.YtdcfemojkdoakaaDoor
/- A region that draws its order, by an invariant and a mark: what holds between some of its operations alone (a row that one makes and another takes). -/
namespace Go.Proofs.YtdcfemojkdoakaaDoor

def updB (L : Nat → Bool) (i : Nat) : Nat → Bool := fun j => if j = i then true else L j
theorem updB_same (L : Nat → Bool) (i : Nat) : updB L i i = true := by simp [updB]
theorem updB_other (L : Nat → Bool) {i j : Nat} (h : j ≠ i) : updB L i j = L j := by simp [updB, h]

/-- What is asked of an operation that the mark speaks of. -/
structure MarkAt (P : Program) (fr : (Nat → Value) → Act) (S : World → Prop) (Vals : Nat → Value → World → Prop) (Mk : (Nat → Bool) → (Nat → Value) → World → Prop)
    (ops : Array Oper) (Q : Exit → Act → World → Prop) (i : Nat) (o : Oper) : Prop where
  back : ∀ e ∈ o.after, Region.binds .any e = true → e.on < i
  put : ∀ x v, (fr x).put o.dst v = fr (upd x i v)
  run : ∀ (L : Nat → Bool) (x : Nat → Value) (w : World), S w → (∀ j, L j = true → Vals j (x j) w) → Mk L x w → L i = false → (∀ e ∈ o.after, Region.binds .any e = true → L e.on = true) →
    ∀ K : Act → World → Prop, (∀ v w', S w' → (∀ j, L j = true → Vals j (x j) w') → Vals i v w' → Mk (updB L i) (upd x i v) w' → K ((fr x).put o.dst v) w') →
      if Region.wanted o (yielded ops (fr x).tmps) = true then Oper.wp P o (fr x) w K Q else K ((fr x).put o.dst undef) w

section
variable {P : Program} {ops : Array Oper} {Q : Exit → Act → World → Prop} {fr : (Nat → Value) → Act} {S : World → Prop} {Rel : World → World → Prop} {Vals : Nat → Value → World → Prop} {Mk : (Nat → Bool) → (Nat → Value) → World → Prop} {sp : Nat → Bool}

theorem mark_any (hput : ∀ i o, ops[i]? = some o → sp i = false → StepAt P fr S Rel Vals ops Q i o) (hmark : ∀ i o, ops[i]? = some o → sp i = true → MarkAt P fr S Vals Mk ops Q i o)
    (hrel : ∀ w w', S w → Rel w w' → S w') (hval : ∀ i v w w', S w → Vals i v w → Rel w w' → Vals i v w') (hmk : ∀ i L x v w w', sp i = false → S w → Mk L x w → Rel w w' → Mk (updB L i) (upd x i v) w')
    (hfin : ∀ L x w, S w → (∀ i, i < ops.size → L i = true ∧ Vals i (x i) w) → Mk L x w → Q .normal (fr x) w) :
    ∀ (fuel : Nat) (listed : Array Bool) (x : Nat → Value) (w : World), listed.size = ops.size → ops.size ≤ fuel + listed.toList.count true → S w →
      (∀ i, listed.getD i false = true → Vals i (x i) w) → Mk (fun i => listed.getD i false) x w → wpAny P .any ops Q fuel listed (fr x) w := by
  have hback : ∀ i o, ops[i]? = some o → ∀ e ∈ o.after, Region.binds .any e = true → e.on < i := fun i o h => by
    cases hs : sp i with
    | false => exact (hput i o h hs).back
    | true => exact (hmark i o h hs).back
  have hend : ∀ (listed : Array Bool) (x : Nat → Value) (w : World), listed.size = ops.size → S w → (∀ i, listed.getD i false = true → Vals i (x i) w) → Mk (fun i => listed.getD i false) x w →
      Region.ready .any ops listed = [] → Q .normal (fr x) w := fun listed x w hz hS hV hM h =>
    hfin _ x w hS (fun i hi => ⟨all_of_none hback hz h i hi, hV i (all_of_none hback hz h i hi)⟩) hM
  intro fuel
  induction fuel with
  | zero =>
    intro listed x w hz hc hS hV hM
    have hall : listed.toList.count true = listed.toList.length := by
      have := List.count_le_length (a := true) (l := listed.toList)
      simp at this hc ⊢; omega
    have hr : Region.ready .any ops listed = [] := by
      cases h : Region.ready .any ops listed with
      | nil => rfl
      | cons i l =>
        have hi : i ∈ Region.ready .any ops listed := by rw [h]; simp
        obtain ⟨h0, o, ho, _⟩ := mem_ready.1 hi
        have hlt : i < listed.size := by rw [hz]; exact (Array.getElem?_eq_some_iff.1 ho).1
        have := List.count_eq_length.1 hall listed[i] (by simp)
        simp [hlt] at h0
        rw [h0] at this; cases this
    exact ⟨hr, hend listed x w hz hS hV hM hr⟩
  | succ fuel ih =>
    intro listed x w hz hc hS hV hM
    refine ⟨hend listed x w hz hS hV hM, fun i hi => ?_⟩
    obtain ⟨h0, o, ho, hdep⟩ := mem_ready.1 hi
    have hlt : i < listed.size := by rw [hz]; exact (Array.getElem?_eq_some_iff.1 ho).1
    have h0' : listed[i] = false := by simpa [hlt] using h0
    have hcnt : ops.size ≤ fuel + (listed.setIfInBounds i true).toList.count true := by
      have : (listed.setIfInBounds i true).toList.count true = listed.toList.count true + 1 := by
        rw [Array.toList_setIfInBounds, List.count_set (by simpa using hlt)]
        simp [h0']
      omega
    have hL : (fun j => (listed.setIfInBounds i true).getD j false) = updB (fun j => listed.getD j false) i := by
      funext j
      by_cases e : j = i
      · subst e; rw [updB_same]; simp [hlt]
      · rw [updB_other _ e, getD_set_ne false (Ne.symm e)]
    have hVs : ∀ v w', (∀ j, listed.getD j false = true → Vals j (x j) w') → Vals i v w' → ∀ j, (listed.setIfInBounds i true).getD j false = true → Vals j (upd x i v j) w' := fun v w' h1 h2 j hj => by
      by_cases hji : j = i
      · subst hji; rw [upd_same]; exact h2
      · rw [upd_other x v hji]
        exact h1 j (by rw [getD_set_ne false (Ne.symm hji)] at hj; exact hj)
    cases hs : sp i with
    | false =>
      have H := hput i o ho hs
      have hK : ∀ v w', Rel w w' → Vals i v w' → wpAny P .any ops Q fuel (listed.setIfInBounds i true) ((fr x).put o.dst v) w' := fun v w' hr hv => by
        rw [H.put]
        exact ih _ _ _ (by simpa using hz) hcnt (hrel w w' hS hr) (hVs v w' (fun j hj => hval _ _ _ _ hS (hV j hj) hr) hv) (by rw [hL]; exact hmk i _ x v w w' hs hS hM hr)
      have := H.run x w hS (fun e he hb => hV e.on (hdep e he hb)) _ hK
      unfold wpOp
      simp only [ho]
      split
      · rename_i hw; rw [if_pos hw] at this; exact .inl this
      · rename_i hw; rw [if_neg hw] at this; exact this
    | true =>
      have H := hmark i o ho hs
      have hK : ∀ v w', S w' → (∀ j, listed.getD j false = true → Vals j (x j) w') → Vals i v w' → Mk (updB (fun j => listed.getD j false) i) (upd x i v) w' → wpAny P .any ops Q fuel (listed.setIfInBounds i true) ((fr x).put o.dst v) w' := fun v w' hS' hV' hv hM' => by
        rw [H.put]
        exact ih _ _ _ (by simpa using hz) hcnt hS' (hVs v w' hV' hv) (by rw [hL]; exact hM')
      have := H.run (fun j => listed.getD j false) x w hS hV hM (by simp [hlt, h0']) hdep _ hK
      unfold wpOp
      simp only [ho]
      split
      · rename_i hw; rw [if_pos hw] at this; exact .inl this
      · rename_i hw; rw [if_neg hw] at this; exact this

theorem region_mark (fr : (Nat → Value) → Act) (S : World → Prop) (Rel : World → World → Prop) (Vals : Nat → Value → World → Prop) (Mk : (Nat → Bool) → (Nat → Value) → World → Prop) (sp : Nat → Bool) (x0 : Nat → Value) {id : Nat} {a : Act} {w : World}
    (hm : P.follows .mixedOrders = true) (ha : a = fr x0) (hS : S w.drew) (hM : Mk (fun _ => false) x0 w.drew)
    (hrel : ∀ w w', S w → Rel w w' → S w') (hval : ∀ i v w w', S w → Vals i v w → Rel w w' → Vals i v w') (hmk : ∀ i L x v w w', sp i = false → S w → Mk L x w → Rel w w' → Mk (updB L i) (upd x i v) w')
    (hops : AllAt (fun i o => (sp i = false → StepAt P fr S Rel Vals ops Q i o) ∧ (sp i = true → MarkAt P fr S Vals Mk ops Q i o)) 0 ops.toList)
    (hfin : ∀ L x w, S w → (∀ i, i < ops.size → L i = true ∧ Vals i (x i) w) → Mk L x w → Q .normal (fr x) w) : (Code.region id ops true).wp P Q a w := by
  subst ha
  refine wp_region_any hm ?_
  have hg := fun (i : Nat) (o : Oper) (h : ops[i]? = some o) => hops.get (i := i) (o := o) (by simpa using h)
  have hnone : ∀ i, (Array.replicate ops.size false).getD i false = false := fun i => by
    by_cases h : i < ops.size
    · simp [h]
    · simp [h]
  refine mark_any (fun i o h hs => by have := (hg i o h).1 (by rwa [Nat.zero_add]); rwa [Nat.zero_add] at this) (fun i o h hs => by have := (hg i o h).2 (by rwa [Nat.zero_add]); rwa [Nat.zero_add] at this) hrel hval hmk hfin _ _ _ _ (by simp) (by simp) hS
    (fun i hi => by rw [hnone] at hi; cases hi) ?_
  rw [show (fun i => (Array.replicate ops.size false).getD i false) = fun _ => false from funext hnone]
  exact hM
end
end Go.Proofs.YtdcfemojkdoakaaDoor
/- Matching, as plain data: what the chapter's way finds; that it finds whatever there is. -/
namespace Go.Proofs.YtdcfemojkdoakaaDoor

/-- Names with their types, the first of a name counts. -/
noncomputable def lkt (n : ByteArray) (l : List (ByteArray × T)) : Option T := (l.find? fun x => decide (x.1 = n)).map (·.2)
theorem lkt_nt (n : ByteArray) : ∀ l : List PR, lkt n (l.map nt) = (lk n l).map (·.t)
  | [] => rfl
  | x :: l => by
    rw [lk_cons]
    unfold lkt
    rw [List.map_cons, List.find?_cons]
    by_cases h : x.n = n
    · simp [nt, h]
    · have e : decide ((nt x).1 = n) = false := decide_eq_false h
      rw [e, if_neg h]
      exact lkt_nt n l
theorem lkt_in {n : ByteArray} {l : List (ByteArray × T)} {t : T} (h : lkt n l = some t) : (n, t) ∈ l := by
  unfold lkt at h
  obtain ⟨x, hx, rfl⟩ := Option.map_eq_some_iff.1 h
  have h1 := List.mem_of_find?_eq_some hx
  have h2 := List.find?_some hx
  simp only [decide_eq_true_eq] at h2
  rw [← h2]; exact h1
/-- The parts, one after another, with what was found so far. -/
def mtL (rec : List (ByteArray × T) → T → T → Option (List (ByteArray × T))) : List (ByteArray × T) → List T → List T → Option (List (ByteArray × T))
  | s, a :: l, b :: m => match rec s a b with
    | none => none
    | some s' => mtL rec s' l m
  | s, _, _ => some s
/-- One type onto another. -/
noncomputable def mt : Nat → List (ByteArray × T) → T → T → Option (List (ByteArray × T))
  | 0, _, _, _ => none
  | f + 1, s, a, b =>
    if a.kind = 1 then match lkt a.name s with
      | some t => if eqB t b = true then some s else none
      | none => some (s ++ [(a.name, b)])
    else if a.kind = b.kind ∧ a.name = b.name ∧ a.kids.length = b.kids.length then mtL (mt f) s a.kids b.kids else none
/-- Types for variables that say what was found. -/
def SaysT (θ : Sg) (s : List (ByteArray × T)) : Prop := ∀ p ∈ s, θ p.1 = p.2
theorem tsize_kids_le {t k : T} (h : k ∈ t.kids) : tsize k < tsize t := by
  have e := tsize_eq t
  have : ∀ l : List T, k ∈ l → tsize k ≤ tsizes l := by
    intro l
    induction l with
    | nil => intro h; cases h
    | cons a l ih =>
      intro h
      rw [tsizes]
      rcases List.mem_cons.1 h with rfl | h
      · omega
      · have := ih h; omega
  have := this _ h
  omega
/-- What is there is found. -/
theorem mt_hit (θ : Sg) : ∀ (f : Nat) (s : List (ByteArray × T)) (a : T), tsize a ≤ f → SaysT θ s → ∃ s', mt f s a (sub θ a) = some s' ∧ SaysT θ s' ∧ s'.length ≤ s.length + tsize a
  | 0, s, a, h, _ => absurd (tsize_pos a) (by omega)
  | f + 1, s, a, h, hs => by
    by_cases hv : a.kind = 1
    · have ha := isV_var (isV_kind.2 hv)
      have e : sub θ a = θ a.name := by conv => lhs; rw [ha]
                                        rfl
      rw [mt, if_pos hv]
      cases hl : lkt a.name s with
      | some t =>
        have ht : θ a.name = t := hs _ (lkt_in hl)
        rw [e, ht]
        exact ⟨s, by simp [eqB], hs, by omega⟩
      | none =>
        refine ⟨_, rfl, fun p hp => ?_, by have := tsize_pos a; simp; omega⟩
        rcases List.mem_append.1 hp with hp | hp
        · exact hs p hp
        · obtain rfl := List.mem_singleton.1 hp
          exact e.symm
    · have hv' : a.isV = false := by
        cases hb : a.isV with
        | false => rfl
        | true => exact absurd (isV_kind.1 hb) hv
      obtain ⟨h1, h2, h3, _⟩ := sub_parts θ a hv'
      rw [mt, if_neg hv, if_pos ⟨h1.symm, h2.symm, by rw [h3, List.length_map]⟩, h3]
      have hz := tsize_eq a
      have key : ∀ (l : List T) (s : List (ByteArray × T)), (∀ k ∈ l, tsize k ≤ f) → SaysT θ s → ∃ s', mtL (mt f) s l (l.map (sub θ)) = some s' ∧ SaysT θ s' ∧ s'.length ≤ s.length + tsizes l := by
        intro l
        induction l with
        | nil => intro s _ hs; exact ⟨s, rfl, hs, by simp [tsizes]⟩
        | cons k l ih =>
          intro s hk hs
          obtain ⟨s1, e1, g1, l1⟩ := mt_hit θ f s k (hk k (by simp)) hs
          obtain ⟨s2, e2, g2, l2⟩ := ih s1 (fun x hx => hk x (List.mem_cons_of_mem _ hx)) g1
          refine ⟨s2, ?_, g2, by rw [tsizes]; omega⟩
          rw [List.map_cons, mtL, e1]; exact e2
      obtain ⟨s', e', g', l'⟩ := key a.kids s (fun k hk => by have := tsize_kids_le hk; omega) hs
      exact ⟨s', e', g', by omega⟩
end Go.Proofs.YtdcfemojkdoakaaDoor
/- The document's match. -/
namespace Go.Proofs.YtdcfemojkdoakaaDoor
open Go.RowKit Go.Sort Go.Lib
attribute [local go_sem] Oper.semAt_some

theorem RowG.news {T : TypeId} {g : Nat} {l : List PR} {w : World} (h : RowG T g l w) : ∀ j u, (cellsP l)[j]? = some u → w.cell? ((⟨g, 0, none⟩ : Addr).add j) = some u := by
  intro j u hu
  have hj : j < l.length * 4 := by have := (List.getElem?_eq_some_iff.1 hu).1; rwa [cellsP_len] at this
  have hadd : (⟨g, 0, none⟩ : Addr).add j = ⟨g, j, none⟩ := by unfold Addr.add; split <;> simp_all
  obtain ⟨cs, h1, _, h3⟩ := h
  rw [hadd, Lib.cell_of_heap h1, row_cells (g := g) h3 rfl j hj, hu]
/-- A row with no elements in a block of its own. -/
theorem own_lit (w : World) (o : Obj) (base : Nat) (T : TypeId) (hb : base ≤ w.heap.size) : ((w.alloc o).alloc (.cells #[] T)).ownsRow base T 4 (.slice (some ⟨w.heap.size + 1, 0, none⟩) 0 0) 0 [] :=
  ⟨rfl, .inr ⟨w.heap.size + 1, 0, #[], rfl, by omega, new_two w o _, Nat.le_refl _, by unfold maxLen; omega, rfl, rfl⟩⟩
def MRes (r : Option (List (ByteArray × T))) (E : Ending) (w' : World) : Prop :=
  match r with
  | none => ∃ v, E = .returned (.tuple #[v, .bool false])
  | some s' => ∃ v q, E = .returned (.tuple #[v, .bool true]) ∧ GivenG 73 v q w' ∧ Typ q w' ∧ q.map nt = s'
theorem cell_new4'' (w : World) (o o' : Obj) (x y z u : Value) (t : TypeId) : ∀ j v, [x, y, z, u][j]? = some v → (((w.alloc o).alloc o').alloc (.cells #[x, y, z, u] t)).cell? ((⟨w.heap.size + 1 + 1, 0, none⟩ : Addr).add j) = some v := by
  have := cell_new4 ((w.alloc o).alloc o') x y z u t
  simpa using this
theorem own_lit2 (w : World) (o o' : Obj) (base : Nat) (T : TypeId) (hb : base ≤ w.heap.size) : (((w.alloc o).alloc o').alloc (.cells #[] T)).ownsRow base T 4 (.slice (some ⟨w.heap.size + 1 + 1, 0, none⟩) 0 0) 0 [] := by
  have := own_lit (w.alloc o) o' base T (by simp; omega)
  simpa using this
theorem below_3b (w : World) (o1 o2 o3 : Obj) : Below w.heap.size w (((w.alloc o1).alloc o2).alloc o3) := (below_two w o1 o2).alloc (by simp; omega) _
theorem new_3b (w : World) (o1 o2 o3 : Obj) : (((w.alloc o1).alloc o2).alloc o3).heap[w.heap.size + 1 + 1]? = some o3 := by
  have := new_two (w.alloc o1) o2 o3
  simpa using this
theorem new_mid (w : World) (o1 o2 o3 : Obj) : (((w.alloc o1).alloc o2).alloc o3).heap[w.heap.size + 1]? = some o2 :=
  (Below.heap_alloc _ _ _ (by simp)).trans (new_two w o1 o2)
theorem cell_mid4 (w : World) (o o' : Obj) (x y z u : Value) (t : TypeId) : ∀ j v, [x, y, z, u][j]? = some v → (((w.alloc o).alloc (.cells #[x, y, z, u] t)).alloc o').cell? ((⟨w.heap.size + 1, 0, none⟩ : Addr).add j) = some v := World.news_of_block (new_mid w o _ o')
theorem lit_keep {w w2 X W : World} {q a c : Nat} {L : List Value} {T : TypeId} (hw : Below w.heap.size w w2) (hx : Below w2.heap.size w2 X) (hg : X.grownBy W (Value.slice (some ⟨q, 0, none⟩) a c).ownBlock) (hq : w2.heap.size ≤ q) (ho : X.ownsRow w.heap.size T 4 (.slice (some ⟨q, 0, none⟩) a c) a L) : Below w.heap.size w W ∧ ∀ (k : Nat) (o : Obj), w2.heap[k]? = some o → W.heap[k]? = some o := by
  refine ⟨(hw.trans (hx.mono hw.size)).grown hg (Nat.le_trans hw.size hx.size) fun j hj => (ho.lt j hj).1, fun k o hk => ?_⟩
  have lk := (Array.getElem?_eq_some_iff.1 hk).1
  refine (hg.block k (Nat.lt_of_lt_of_le lk hx.size) (fun e => ?_)).trans ((hx.block k lk).trans hk)
  simp only [Value.ownBlock, Option.some.injEq] at e
  omega
theorem match_end {w W : World} {d : List PR} {x : PR} {v : Value} {k : Nat} {L : List Value} {T : TypeId} (ho : W.ownsRow w.heap.size T 4 v k L) (hk : k = d.length + 1) (hL : L = cellsP d ++ encP x) (hb : Below w.heap.size w W) (td : Typ d w) (hx : TysAt w (.slice x.a x.t.kids.length x.c) x.t.kids) : GivenG T v (d ++ [x]) W ∧ Typ (d ++ [x]) W := by
  have hkt := KeepT.of_below hb
  refine ⟨given_of_row (base := w.heap.size) ?_ (fun e => by simp at e), fun y hy => ?_⟩
  · rw [cellsP_snoc, List.length_append, ← hL]; rw [hk] at ho; exact ho
  · rcases List.mem_append.1 hy with hy | hy
    · exact (td y hy).keep hkt
    · obtain rfl := List.mem_singleton.1 hy
      exact hx.keep hkt
/-- Both boxes, behind a call. -/
theorem boxes_after {w W : World} {x0 x1 x2 y0 y1 y2 : Value} {T : TypeId} (hb : Below ((w.alloc (.cells #[x0, x1, x2] T)).alloc (.cells #[y0, y1, y2] T)).heap.size ((w.alloc (.cells #[x0, x1, x2] T)).alloc (.cells #[y0, y1, y2] T)) W) :
    W.heap[w.heap.size]? = some (.cells #[x0, x1, x2] T (0, 0)) ∧ W.heap[w.heap.size + 1]? = some (.cells #[y0, y1, y2] T (0, 0)) ∧ Below w.heap.size w W :=
  ⟨(hb.block _ (by simp; omega)).trans ((Below.heap_alloc _ _ _ (by simp)).trans (alloc_new w _)), (hb.block _ (by simp)).trans (new_two w _ _), (below_two w _ _).trans (hb.mono (by simp; omega))⟩
end Go.Proofs.YtdcfemojkdoakaaDoor
/- The document's match: what its drawn region keeps between its operations. -/
namespace Go.Proofs.YtdcfemojkdoakaaDoor
open Go.RowKit Go.Sort Go.Lib
attribute [local go_sem] Oper.semAt_some

theorem own_below {w w' : World} {base : Nat} {e : TypeId} {size : Nat} {v : Value} {n : Nat} {xs : List Value} (h : w.ownsRow base e size v n xs) (hb : Below w.heap.size w w') : w'.ownsRow base e size v n xs := by
  refine ⟨h.1, ?_⟩
  rcases h.2 with h2 | ⟨g, cap, cur, rfl, hb', hg, r⟩
  · exact .inl h2
  · exact .inr ⟨g, cap, cur, rfl, hb', (hb.block g (Array.getElem?_eq_some_iff.1 hg).1).trans hg, r⟩
theorem nope {p : Prop} {c : Bool} (h : c = false) (e : c = true) : p := by rw [h] at e; cases e
theorem depL {o : Oper} {L : Nat → Bool} (h : ∀ e ∈ o.after, Region.binds .any e = true → L e.on = true) (j : Nat)
    (hj : (o.after.any fun e => Region.binds .any e && e.on == j) = true) : L j = true := by
  rw [Array.any_eq_true'] at hj
  obtain ⟨e, he, hj⟩ := hj
  simp only [Bool.and_eq_true, beq_iff_eq] at hj
  have := h e he hj.1
  rw [hj.2] at this; exact this
theorem grown_refl (w : World) (r : Option Nat) : w.grownBy w r := ⟨rfl, rfl, rfl, Nat.le_refl _, fun _ _ _ => rfl⟩
/-- Nothing is appended. -/
theorem step_append_none {P : Program} (w : World) {ops : Array Oper} {o : Oper} {a : Act} {K : Act → World → Prop} {Q : Exit → Act → World → Prop} {E : Prop} (hgd : o.guard = none) (s x : Operand) (t : TypeId)
    (ho : o.op = .call { callee := .builtin .append, args := #[s, x], argTypes := #[t, t] }) (e : TypeId) (i : TypeInfo) (ht : P.underlying t = some (.slice e)) (hi : P.info? e = some i)
    (g : Addr) (n c : Nat) (hs : a.eval s = .slice (some g) n c) (hle : n ≤ c) (hx : a.eval x = .slice none 0 0) (h : K (a.put o.dst (.slice (some g) n c)) w) :
    if Region.wanted o (yielded ops a.tmps) = true then Oper.wp P o a w K Q else E := by
  have hw : Region.wanted o (yielded ops a.tmps) = true := by simp [Region.wanted, hgd]
  rw [if_pos hw]
  have hr : (Builtin.append_ #[t, t] o.type #[.slice (some g) n c, .slice none 0 0]).run P w = .ok (.slice (some g) n c) w := by
    simp [Builtin.append_, run_underlying ht, sizeOf, typeInfo, hi, hle, storeCells, go_sem]
  unfold Oper.wp execOp
  simp only [ho, resolve, invoke, builtin, Sem.run_bind, Sem.run_pure, Result.andThen_ok, List.map_toArray, List.map_cons, List.map_nil, hs, hx, hr]
  exact h
abbrev prV (x : PR) : Array Value := #[.string x.n, .int .i64 x.t.kind, .string x.t.name, .slice x.a x.t.kids.length x.c]
/-- Rows that one operation makes and another takes: 0 an empty one, 2 a copy, 7 a row of one pair, 8 both. -/
structure MtK (b : Nat) (T : TypeId) (ds : List PR) (pr : PR) (L : Nat → Bool) (x : Nat → Value) (V : World) : Prop where
  l2 : L 2 = true → L 0 = true
  l8 : L 8 = true → L 2 = true ∧ L 7 = true
  l9 : L 9 = true → L 8 = true
  o0 : L 0 = true → L 2 = false → V.ownsRow b T 4 (x 0) 0 []
  o2 : L 2 = true → L 8 = false → V.ownsRow b T 4 (x 2) ds.length (cellsP ds)
  r7 : L 7 = true → L 8 = false → ∃ zb, x 7 = .slice (some ⟨zb, 0, none⟩) 1 1 ∧ V.heap[zb]? = some (.cells (prV pr) T (0, 0)) ∧ (L 0 = true → L 2 = false → (x 0).ownBlock ≠ some zb) ∧ (L 2 = true → (x 2).ownBlock ≠ some zb)
section
variable {b : Nat} {T : TypeId} {ds : List PR} {pr : PR} {L : Nat → Bool} {x : Nat → Value} {V Y : World}
theorem MtK.start (b : Nat) (T : TypeId) (ds : List PR) (pr : PR) (x : Nat → Value) (V : World) : MtK b T ds pr (fun _ => false) x V :=
  ⟨(fun h => nomatch h), (fun h => nomatch h), (fun h => nomatch h), (fun h => nomatch h), (fun h => nomatch h), (fun h => nomatch h)⟩
theorem MtK.below (h : MtK b T ds pr L x V) (hb : Below V.heap.size V Y) : MtK b T ds pr L x Y := by
  refine ⟨h.l2, h.l8, h.l9, fun h0 h2 => own_below (h.o0 h0 h2) hb, fun h2 h8 => own_below (h.o2 h2 h8) hb, fun h7 h8 => ?_⟩
  obtain ⟨zb, e, hz, r⟩ := h.r7 h7 h8
  exact ⟨zb, e, (hb.block zb (Array.getElem?_eq_some_iff.1 hz).1).trans hz, r⟩
/-- Any other operation. -/
theorem MtK.keep (h : MtK b T ds pr L x V) (hb : Below V.heap.size V Y) {i : Nat} (hi : (i == 0 || i == 2 || i == 7 || i == 8 || i == 9) = false) (v : Value) : MtK b T ds pr (updB L i) (upd x i v) Y := by
  simp only [Bool.or_eq_false_iff, beq_eq_false_iff_ne, ne_eq] at hi
  obtain ⟨⟨⟨⟨i0, i2⟩, i7⟩, i8⟩, i9⟩ := hi
  have h := h.below hb
  have e0 := updB_other L (Ne.symm i0); have e2 := updB_other L (Ne.symm i2); have e7 := updB_other L (Ne.symm i7); have e8 := updB_other L (Ne.symm i8); have e9 := updB_other L (Ne.symm i9)
  have f0 := upd_other x v (Ne.symm i0); have f2 := upd_other x v (Ne.symm i2); have f7 := upd_other x v (Ne.symm i7)
  refine ⟨?_, ?_, ?_, ?_, ?_, ?_⟩ <;> simp only [e0, e2, e7, e8, e9, f0, f2, f7]
  · exact h.l2
  · exact h.l8
  · exact h.l9
  · exact h.o0
  · exact h.o2
  · exact h.r7
theorem MtK.no2 (h : MtK b T ds pr L x V) (h0 : L 0 = false) : L 2 = false := by
  cases e : L 2 with
  | false => rfl
  | true => have := h.l2 e; rw [h0] at this; cases this
theorem MtK.no8 (h : MtK b T ds pr L x V) (h2 : L 2 = false ∨ L 7 = false) : L 8 = false := by
  cases e : L 8 with
  | false => rfl
  | true =>
    obtain ⟨a1, a2⟩ := h.l8 e
    rcases h2 with h2 | h2
    · rw [h2] at a1; cases a1
    · rw [h2] at a2; cases a2
theorem MtK.no9 (h : MtK b T ds pr L x V) (h8 : L 8 = false) : L 9 = false := by
  cases e : L 9 with
  | false => rfl
  | true => have := h.l9 e; rw [h8] at this; cases this
/-- An empty row is made. -/
theorem MtK.lit (h : MtK b T ds pr L x V) (h0 : L 0 = false) (hb : b ≤ V.heap.size) : MtK b T ds pr (updB L 0) (upd x 0 (.slice (some ⟨V.heap.size, 0, none⟩) 0 0)) (V.alloc (.cells #[] T)) := by
  have h2 := h.no2 h0
  have h8 := h.no8 (.inl h2)
  have h9 := h.no9 h8
  have hk := h.below ((Below.refl _ V).alloc (Nat.le_refl _) (.cells #[] T))
  have e2 : updB L 0 2 = false := h2; have e7 : updB L 0 7 = L 7 := rfl; have e8 : updB L 0 8 = false := h8; have e9 : updB L 0 9 = false := h9
  refine ⟨fun e => nope e2 e, fun e => nope e8 e, fun e => nope e9 e, fun _ _ => ?_, fun e => nope e2 e, fun h7 _ => ?_⟩
  · exact ⟨rfl, .inr ⟨V.heap.size, 0, #[], rfl, hb, alloc_new V _, Nat.le_refl _, by unfold maxLen; omega, rfl, rfl⟩⟩
  · obtain ⟨zb, e, hz, _⟩ := h.r7 h7 h8
    obtain ⟨zb', e', hz', _⟩ := hk.r7 h7 h8
    have : zb = zb' := by rw [e] at e'; injection e' with q; injection q with q; injection q
    subst this
    refine ⟨zb, e, hz', fun _ _ eq => ?_, fun e => nope e2 e⟩
    have : V.heap.size = zb := by simpa [upd, Value.ownBlock] using eq
    have := (Array.getElem?_eq_some_iff.1 hz).1
    omega
/-- A row of one pair is made. -/
theorem MtK.one (h : MtK b T ds pr L x V) (h7 : L 7 = false) : MtK b T ds pr (updB L 7) (upd x 7 (.slice (some ⟨V.heap.size, 0, none⟩) 1 1)) (V.alloc (.cells (prV pr) T)) := by
  have h8 := h.no8 (.inr h7)
  have h9 := h.no9 h8
  have hk := h.below ((Below.refl _ V).alloc (Nat.le_refl _) (.cells (prV pr) T))
  refine ⟨h.l2, fun e => nope (c := updB L 7 8) h8 e, fun e => nope (c := updB L 7 9) h9 e, hk.o0, hk.o2, fun _ _ => ?_⟩
  refine ⟨V.heap.size, rfl, alloc_new V _, fun e0 e2 eq => ?_, fun e2 eq => ?_⟩
  · have := ((h.o0 e0 e2).lt V.heap.size eq).2; omega
  · have := ((h.o2 e2 h8).lt V.heap.size eq).2; omega
/-- The copy. -/
theorem MtK.app (h : MtK b T ds pr L x V) (h2 : L 2 = false) (h0 : L 0 = true) {g c : Nat} (ho : Y.ownsRow b T 4 (.slice (some ⟨g, 0, none⟩) ds.length c) ds.length (cellsP ds)) (hg : V.grownBy Y (x 0).ownBlock) (hat : (x 0).ownBlock = some g ∨ g = V.heap.size) :
    MtK b T ds pr (updB L 2) (upd x 2 (.slice (some ⟨g, 0, none⟩) ds.length c)) Y := by
  have h8 := h.no8 (.inl h2)
  have h9 := h.no9 h8
  refine ⟨fun _ => h0, fun e => nope (c := updB L 2 8) h8 e, fun e => nope (c := updB L 2 9) h9 e, fun _ e => nope e (updB_same _ _), fun _ _ => ho, fun h7 _ => ?_⟩
  obtain ⟨zb, e, hz, hn, _⟩ := h.r7 h7 h8
  have hl := (Array.getElem?_eq_some_iff.1 hz).1
  refine ⟨zb, e, (hg.block zb hl (Ne.symm (hn h0 h2))).trans hz, fun _ e => nope e (updB_same _ _), fun _ eq => ?_⟩
  have eg : g = zb := by simpa [upd, Value.ownBlock] using eq
  subst eg
  rcases hat with hat | hat
  · exact hn h0 h2 hat
  · omega
/-- Both in one. -/
theorem MtK.last (h : MtK b T ds pr L x V) (h2 : L 2 = true) (h7 : L 7 = true) (h8 : L 8 = false) (v : Value) (Y : World) : MtK b T ds pr (updB L 8) (upd x 8 v) Y := by
  have h9 := h.no9 h8
  refine ⟨h.l2, fun _ => ⟨h2, h7⟩, fun e => nope (c := updB L 8 9) h9 e, fun _ e => ?_, fun _ e => nope e (updB_same _ _), fun _ e => nope e (updB_same _ _)⟩
  rw [show updB L 8 2 = L 2 from rfl, h2] at e; cases e
theorem MtK.asn (h : MtK b T ds pr L x V) (h8 : L 8 = true) (v : Value) : MtK b T ds pr (updB L 9) (upd x 9 v) V :=
  ⟨h.l2, h.l8, fun _ => h8, h.o0, h.o2, h.r7⟩
end
end Go.Proofs.YtdcfemojkdoakaaDoor
/- UnifySays: what all of some pairs come to; what its statements keep. -/
namespace Go.Proofs.YtdcfemojkdoakaaDoor
open Go.RowKit Go.Sort Go.Lib
attribute [local go_sem] Oper.semAt_some

theorem run_guardF {P : Program} {o : Oper} {ops : Array Oper} {a : Act} {w : World} {K : Act → World → Prop} {Q : Exit → Act → World → Prop} {C : Prop} (g k : Nat) (v : Value) (hg : o.guard = some (g, false))
    (hk : (ops[g]?).bind (·.dst) = some k) (hv : a.tmps[k]? = some v) (e : v = .bool false) (h : Oper.wp P o a w K Q) :
    if Region.wanted o (yielded ops a.tmps) = true then Oper.wp P o a w K Q else C := by
  rw [if_pos (by simp [Region.wanted, hg, yielded, hk, hv, e])]; exact h
theorem run_skip {P : Program} {o : Oper} {ops : Array Oper} {a : Act} {w : World} {K : Act → World → Prop} {Q : Exit → Act → World → Prop} {C : Prop} (g k : Nat) (v : Value) (hg : o.guard = some (g, true))
    (hk : (ops[g]?).bind (·.dst) = some k) (hv : a.tmps[k]? = some v) (e : v = .bool false) (h : C) :
    if Region.wanted o (yielded ops a.tmps) = true then Oper.wp P o a w K Q else C := by
  rw [if_neg (by simp [Region.wanted, hg, yielded, hk, hv, e])]; exact h
theorem run_skipF {P : Program} {o : Oper} {ops : Array Oper} {a : Act} {w : World} {K : Act → World → Prop} {Q : Exit → Act → World → Prop} {C : Prop} (g k : Nat) (v : Value) (hg : o.guard = some (g, false))
    (hk : (ops[g]?).bind (·.dst) = some k) (hv : a.tmps[k]? = some v) (e : v = .bool true) (h : C) :
    if Region.wanted o (yielded ops a.tmps) = true then Oper.wp P o a w K Q else C := by
  rw [if_neg (by simp [Region.wanted, hg, yielded, hk, hv, e])]; exact h
theorem run_skipU {P : Program} {o : Oper} {ops : Array Oper} {a : Act} {w : World} {K : Act → World → Prop} {Q : Exit → Act → World → Prop} {C : Prop} (g k : Nat) (v : Value) (hg : o.guard = some (g, true))
    (hk : (ops[g]?).bind (·.dst) = some k) (hv : a.tmps[k]? = some v) (e : v = undef) (h : C) :
    if Region.wanted o (yielded ops a.tmps) = true then Oper.wp P o a w K Q else C := by
  rw [if_neg (by simp [Region.wanted, hg, yielded, hk, hv, e, undef])]; exact h
/-- Pairs, one after another: it ends, and what is found is well. -/
theorem all_start (S : USet) : ∀ (l : List (Tl × Tl)) (σ : Sg), UInv S σ → (∀ x, x ∉ S.V → σ x = .var x) → (∀ x ∈ l, S.O x.1.1 ∧ S.O x.2.1 ∧ ∀ a b, S.P a b) →
    ∃ r, UniAll σ (plainP l) r ∧ ∀ τ, r = .ok τ → UInv S τ ∧ ∀ x, x ∉ S.V → τ x = .var x
  | [], σ, hi, ho, _ => ⟨.ok σ, .nil σ, fun τ e => by injection e with e; exact e ▸ ⟨hi, ho⟩⟩
  | x :: l, σ, hi, ho, h => by
    obtain ⟨ha, hb, hP⟩ := h x (List.mem_cons_self ..)
    obtain ⟨r, hr, _⟩ := uni_total S.V σ x.1.1 x.2.1 hi.idem hi.vin (S.tin _ ha) (S.tin _ hb)
    cases r with
    | bad e => exact ⟨.bad e, .bad σ _ _ _ e hr, fun τ q => nomatch q⟩
    | ok τ =>
      have h1 := (hr.inv hi (.of ha) (.of hb) (hP _ _)).1
      obtain ⟨f, hf⟩ := hr
      have h2 := (uni_out f σ _ _ τ hf hi.idem hi.vin (S.tin _ ha) (S.tin _ hb) ho).2
      obtain ⟨q, hq, k⟩ := all_start S l τ h1 h2 fun y hy => h y (List.mem_cons_of_mem _ hy)
      exact ⟨q, .cons σ τ _ _ _ q ⟨f, hf⟩ hq, k⟩
theorem rap_ret {S : USet} {τ : Sg} {l : List PR} {t u : T} {v : Value} {a : Option Addr} {c : Nat} {w : World} (hg : GivenG 73 v l w) (hy : Typ l w) (hp : PInv S l τ) (hl : S.V.length < 10) (ht : tsize t ≤ 900000000) (e : sub τ t = u) (hT : TysAt w (.slice a t.kids.length c) t.kids) :
    Calls Tryd.prog 15 #[v, .agg #[.int .i64 t.kind, .string t.name, .slice a t.kids.length c]] w fun E Y => (∃ za zc, E = .returned (.agg #[.int .i64 u.kind, .string u.name, .slice za u.kids.length zc]) ∧ TysAt Y (.slice za u.kids.length zc) u.kids) ∧ Below w.heap.size w Y := by
  have e2 : app l t = u := (hp.is.app t).trans e
  subst e2
  have hlen := hp.len
  exact rapp_big (by omega) hg hy hT (by omega)
theorem BoxT.byMkU {b B p : Nat} {t : T} {a : Option Addr} {c : Nat} {a2 : Option Addr} {n2 c2 k : Nat} {w W : World} (h : BoxT b t a c w) (hf : MkFr B p w W) (hs : SeqAt B p a2 n2 c2 k w) : BoxT b t a c W :=
  ⟨hf.2 b _ h.1 (fun e => by subst e; have := h.1.symm.trans hs.1.2; simp at this), h.2.keep (KeepT.of_mk hf hs)⟩
/-- Two types, and what was found for them, by the program and by the document. -/
def UZ (w : World) (bA bC bS : Nat) (ta tc : T) (pa pc : Option Addr) (ca cc : Nat) (xa : Option Addr) (xc : Nat) (l : List PR) (v : Value) (q : List PR) (V : World) : Prop :=
  (BoxT bA ta pa ca V ∧ BoxT bC tc pc cc V) ∧ BoxS bS (.slice xa l.length xc) l V ∧ (GivenG 73 v q V ∧ Typ q V) ∧ Below w.heap.size w V
section
variable {w X Y : World} {bA bC bS : Nat} {ta tc : T} {pa pc : Option Addr} {ca cc : Nat} {xa : Option Addr} {xc : Nat} {l : List PR} {v : Value} {q : List PR}
theorem UZ.below (h : UZ w bA bC bS ta tc pa pc ca cc xa xc l v q X) (hb : Below X.heap.size X Y) : UZ w bA bC bS ta tc pa pc ca cc xa xc l v q Y :=
  ⟨⟨h.1.1.below hb, h.1.2.below hb⟩, h.2.1.below hb, ⟨h.2.2.1.1.below hb, h.2.2.1.2.keep (KeepT.of_below hb)⟩, h.2.2.2.trans (hb.mono h.2.2.2.size)⟩
theorem UZ.cells (h : UZ w bA bC bS ta tc pa pc ca cc xa xc l v q X) :
    (X.cell? ⟨bA, 0, none⟩ = some (.int .i64 ta.kind) ∧ X.cell? ⟨bA, 1, none⟩ = some (.string ta.name) ∧ X.cell? ⟨bA, 2, none⟩ = some (.slice pa ta.kids.length ca)) ∧
    (X.cell? ⟨bC, 0, none⟩ = some (.int .i64 tc.kind) ∧ X.cell? ⟨bC, 1, none⟩ = some (.string tc.name) ∧ X.cell? ⟨bC, 2, none⟩ = some (.slice pc tc.kids.length cc)) ∧ X.cell? ⟨bS, 0, none⟩ = some (.slice xa l.length xc) :=
  ⟨h.1.1.cells, h.1.2.cells, h.2.1.cell⟩
end
/-- Three types, and the numbers that are left. -/
def UY (w : World) (p : Nat) (sa : Option Addr) (sn sc k : Nat) (b5 b6 b7 : Nat) (ta tb tc : T) (pa pb pc : Option Addr) (ca cb cc : Nat) (V : World) : Prop :=
  (BoxT b5 ta pa ca V ∧ BoxT b6 tb pb cb V ∧ BoxT b7 tc pc cc V) ∧ SeqAt w.heap.size p sa sn sc k V ∧ Below w.heap.size w V
/-- Three types alone. -/
def UX (w : World) (b5 b6 b7 : Nat) (ta tb tc : T) (pa pb pc : Option Addr) (ca cb cc : Nat) (V : World) : Prop :=
  (BoxT b5 ta pa ca V ∧ BoxT b6 tb pb cb V ∧ BoxT b7 tc pc cc V) ∧ Below w.heap.size w V
section
variable {w X Y : World} {p : Nat} {sa : Option Addr} {sn sc k : Nat} {b5 b6 b7 : Nat} {ta tb tc : T} {pa pb pc : Option Addr} {ca cb cc : Nat}
theorem UY.below (h : UY w p sa sn sc k b5 b6 b7 ta tb tc pa pb pc ca cb cc X) (hb : Below X.heap.size X Y) : UY w p sa sn sc k b5 b6 b7 ta tb tc pa pb pc ca cb cc Y :=
  ⟨⟨h.1.1.below hb, h.1.2.1.below hb, h.1.2.2.below hb⟩, h.2.1.below hb, h.2.2.trans (hb.mono h.2.2.size)⟩
theorem UX.below (h : UX w b5 b6 b7 ta tb tc pa pb pc ca cb cc X) (hb : Below X.heap.size X Y) : UX w b5 b6 b7 ta tb tc pa pb pc ca cb cc Y :=
  ⟨⟨h.1.1.below hb, h.1.2.1.below hb, h.1.2.2.below hb⟩, h.2.trans (hb.mono h.2.size)⟩
theorem UX.mk (h : UX w b5 b6 b7 ta tb tc pa pb pc ca cb cc X) (hf : MkFr w.heap.size p X Y) (hs : SeqAt w.heap.size p sa sn sc k X) : UX w b5 b6 b7 ta tb tc pa pb pc ca cb cc Y :=
  ⟨⟨h.1.1.byMkU hf hs, h.1.2.1.byMkU hf hs, h.1.2.2.byMkU hf hs⟩, h.2.trans hf.1⟩
end
/-- The numbers that are left, until the last type is made. -/
def UMk (w : World) (p : Nat) (sa : Option Addr) (sn sc k : Nat) (L : Nat → Bool) (_ : Nat → Value) (V : World) : Prop := L 8 = false → SeqAt w.heap.size p sa sn sc k V
theorem UMk.keep {w X Y : World} {p : Nat} {sa : Option Addr} {sn sc k : Nat} {L : Nat → Bool} {x : Nat → Value} (h : UMk w p sa sn sc k L x X) (hb : Below X.heap.size X Y) {i : Nat} (hi : (i == 8) = false) (v : Value) : UMk w p sa sn sc k (updB L i) (upd x i v) Y := fun e =>
  (h (by rwa [updB_other L (fun q : 8 = i => by subst q; simp at hi)] at e)).below hb
/-- A row of three pairs. -/
theorem p2_three {V : World} {g : Nat} {ta tb tc td : T} {pa pb pc pd : Option Addr} {ca cb cc cd : Nat}
    (hg : V.heap[g]? = some (.cells #[.int .i64 ta.kind, .string ta.name, .slice pa ta.kids.length ca, .int .i64 tb.kind, .string tb.name, .slice pb tb.kids.length cb, .int .i64 tb.kind, .string tb.name, .slice pb tb.kids.length cb, .int .i64 tc.kind, .string tc.name, .slice pc tc.kids.length cc, .int .i64 tc.kind, .string tc.name, .slice pc tc.kids.length cc, .int .i64 td.kind, .string td.name, .slice pd td.kids.length cd] 45 (0, 0)))
    (ha : TysAt V (.slice pa ta.kids.length ca) ta.kids) (hb : TysAt V (.slice pb tb.kids.length cb) tb.kids) (hc : TysAt V (.slice pc tc.kids.length cc) tc.kids) (hd : TysAt V (.slice pd td.kids.length cd) td.kids) :
    P2At (.slice (some ⟨g, 0, none⟩) 3 3) [((ta, pa, ca), (tb, pb, cb)), ((tb, pb, cb), (tc, pc, cc)), ((tc, pc, cc), (td, pd, cd))] V := by
  refine ⟨_, 3, rfl, Nat.le_refl _, fun i hi => ⟨g, rfl, (Array.getElem?_eq_some_iff.1 hg).1, ?_⟩⟩
  have hi3 : i < 3 := hi
  match i, hi3 with
  | 0, _ => exact ⟨⟨⟨by rw [Lib.cell_of_heap hg]; rfl, by rw [Lib.cell_of_heap hg]; rfl, by rw [Lib.cell_of_heap hg]; rfl⟩, by rw [Lib.cell_of_heap hg]; rfl, by rw [Lib.cell_of_heap hg]; rfl, by rw [Lib.cell_of_heap hg]; rfl⟩, ha, hb⟩
  | 1, _ => exact ⟨⟨⟨by rw [Lib.cell_of_heap hg]; rfl, by rw [Lib.cell_of_heap hg]; rfl, by rw [Lib.cell_of_heap hg]; rfl⟩, by rw [Lib.cell_of_heap hg]; rfl, by rw [Lib.cell_of_heap hg]; rfl, by rw [Lib.cell_of_heap hg]; rfl⟩, hb, hc⟩
  | 2, _ => exact ⟨⟨⟨by rw [Lib.cell_of_heap hg]; rfl, by rw [Lib.cell_of_heap hg]; rfl, by rw [Lib.cell_of_heap hg]; rfl⟩, by rw [Lib.cell_of_heap hg]; rfl, by rw [Lib.cell_of_heap hg]; rfl, by rw [Lib.cell_of_heap hg]; rfl⟩, hc, hd⟩
  | n + 3, h => omega
end Go.Proofs.YtdcfemojkdoakaaDoor
/- UnifySays: its last statement, a region of 22 operations that draws its order, by an invariant. (Made by a program.) -/
namespace Go.Proofs.YtdcfemojkdoakaaDoor
open Go.RowKit Go.Sort Go.Lib
attribute [local go_sem] Oper.semAt_some

noncomputable def usaOps : Array Oper := regionIn 14 (Tryd.f3.body.getD .skip)
def usaFr (b : Nat → Value) (d : List Deferred) (x : Nat → Value) : Act := { tmps := #[b 0, b 1, b 2, b 3, b 4, b 5, b 6, b 7, b 8, b 9, b 10, b 11, b 12, b 13, b 14, b 15, b 16, b 17, b 18, b 19, b 20, b 21, b 22, b 23, b 24, b 25, b 26, b 27, b 28, b 29, b 30, b 31, b 32, b 33, b 34, b 35, b 36, b 37, b 38, b 39, b 40, b 41, b 42, b 43, b 44, b 45, b 46, b 47, b 48, x 0, x 1, x 2, x 3, x 4, x 5, x 6, x 7, x 8, x 9, x 10, x 11, x 12, x 13, x 14, x 15, x 16, x 17, x 18, x 19, x 20, x 21, b 71, b 72, b 73, b 74, b 75, b 76, b 77, b 78, b 79, b 80, b 81, b 82, b 83, b 84, b 85, b 86, b 87, b 88, b 89, b 90, b 91, b 92, b 93, b 94, b 95, b 96, b 97, b 98, b 99, b 100, b 101, b 102, b 103, b 104, b 105, b 106, b 107, b 108, b 109, b 110, b 111, b 112, b 113, b 114, b 115, b 116, b 117, b 118, b 119], defers := d }

def usaVals (ta tc : T) (pa pc : Option Addr) (ca cc : Nat) (xa : Option Addr) (xc : Nat) (l : List PR) (mv : Value) (τ : Sg) (i : Nat) (v : Value) (V : World) : Prop :=
  match i with
  | 0 => v = .int .i64 0
  | 1 => v = .bool true
  | 2 => v = .bool true
  | 3 => v = .agg #[.slice xa l.length xc]
  | 4 => v = .agg #[.int .i64 (ta).kind, .string (ta).name, .slice pa (ta).kids.length ca]
  | 5 => ∃ za zc, v = .agg #[.int .i64 (sub τ ta).kind, .string (sub τ ta).name, .slice za (sub τ ta).kids.length zc] ∧ TysAt V (.slice za (sub τ ta).kids.length zc) (sub τ ta).kids
  | 6 => v = mv
  | 7 => v = .agg #[.int .i64 (ta).kind, .string (ta).name, .slice pa (ta).kids.length ca]
  | 8 => ∃ za zc, v = .agg #[.int .i64 (sub τ ta).kind, .string (sub τ ta).name, .slice za (sub τ ta).kids.length zc] ∧ TysAt V (.slice za (sub τ ta).kids.length zc) (sub τ ta).kids
  | 9 => v = .bool true
  | 10 => v = .bool false
  | 11 => v = .bool false
  | 12 => v = .agg #[.slice xa l.length xc]
  | 13 => v = .agg #[.int .i64 (tc).kind, .string (tc).name, .slice pc (tc).kids.length cc]
  | 14 => ∃ za zc, v = .agg #[.int .i64 (sub τ tc).kind, .string (sub τ tc).name, .slice za (sub τ tc).kids.length zc] ∧ TysAt V (.slice za (sub τ tc).kids.length zc) (sub τ tc).kids
  | 15 => v = mv
  | 16 => v = .agg #[.int .i64 (tc).kind, .string (tc).name, .slice pc (tc).kids.length cc]
  | 17 => ∃ za zc, v = .agg #[.int .i64 (sub τ tc).kind, .string (sub τ tc).name, .slice za (sub τ tc).kids.length zc] ∧ TysAt V (.slice za (sub τ tc).kids.length zc) (sub τ tc).kids
  | 18 => v = .bool true
  | 19 => v = .bool false
  | 20 => v = .bool false
  | 21 => v = .bool false
  | _ => True

theorem usaVals_keep {ta tc : T} {pa pc : Option Addr} {ca cc : Nat} {xa : Option Addr} {xc : Nat} {l : List PR} {mv : Value} {τ : Sg} (i : Nat) (v : Value) (V Y : World) (h : usaVals ta tc pa pc ca cc xa xc l mv τ i v V) (hb : Below V.heap.size V Y) : usaVals ta tc pa pc ca cc xa xc l mv τ i v Y := by
  unfold usaVals at *
  split at h <;> first
    | exact h
    | (obtain ⟨za, zc, e, h⟩ := h; exact ⟨za, zc, e, h.keep (KeepT.of_below hb)⟩)

theorem usa_size : usaOps.size = 22 := by kernel_rfl
theorem usa_dst_2 : (usaOps[2]?).bind (·.dst) = some 51 := by kernel_rfl
theorem usa_dst_11 : (usaOps[11]?).bind (·.dst) = some 60 := by kernel_rfl
set_option linter.unusedSimpArgs false in
set_option maxRecDepth 100000 in
set_option maxHeartbeats 8000000 in
theorem usa_region {w : World} {b5 b7 b8 : Nat} {ta tc : T} {pa pc : Option Addr} {ca cc : Nat} {xa : Option Addr} {xc : Nat} {l : List PR} {mv : Value} {q : List PR} {τ : Sg} {p sn sc k b6 : Nat} {sa : Option Addr} {tb : T} {pb : Option Addr} {cb : Nat} {b : Nat → Value} {d : List Deferred}
    (h5 : b 5 = .pointer (some ⟨b5, 0, none⟩)) (h7 : b 7 = .pointer (some ⟨b7, 0, none⟩)) (h8 : b 8 = .pointer (some ⟨b8, 0, none⟩)) (h10 : b 10 = mv) (h11 : b 11 = .int .i64 0)
    (HC5 : ∀ V, (UZ w b5 b7 b8 ta tc pa pc ca cc xa xc l mv q V ∧ UY w p sa sn sc k b5 b6 b7 ta tb tc pa pb pc ca cb cc V) → Calls Tryd.prog 14 #[.agg #[.slice xa l.length xc], .agg #[.int .i64 (ta).kind, .string (ta).name, .slice pa (ta).kids.length ca]] V fun e Y => (∃ za zc, e = .returned (.agg #[.int .i64 (sub τ ta).kind, .string (sub τ ta).name, .slice za (sub τ ta).kids.length zc]) ∧ TysAt Y (.slice za (sub τ ta).kids.length zc) (sub τ ta).kids) ∧ Below V.heap.size V Y)
    (HC8 : ∀ V, (UZ w b5 b7 b8 ta tc pa pc ca cc xa xc l mv q V ∧ UY w p sa sn sc k b5 b6 b7 ta tb tc pa pb pc ca cb cc V) → Calls Tryd.prog 15 #[mv, .agg #[.int .i64 (ta).kind, .string (ta).name, .slice pa (ta).kids.length ca]] V fun e Y => (∃ za zc, e = .returned (.agg #[.int .i64 (sub τ ta).kind, .string (sub τ ta).name, .slice za (sub τ ta).kids.length zc]) ∧ TysAt Y (.slice za (sub τ ta).kids.length zc) (sub τ ta).kids) ∧ Below V.heap.size V Y)
    (HC9 : ∀ V, (UZ w b5 b7 b8 ta tc pa pc ca cc xa xc l mv q V ∧ UY w p sa sn sc k b5 b6 b7 ta tb tc pa pb pc ca cb cc V) → ∀ za5, ∀ zc5, TysAt V (.slice za5 (sub τ ta).kids.length zc5) (sub τ ta).kids → ∀ za8, ∀ zc8, TysAt V (.slice za8 (sub τ ta).kids.length zc8) (sub τ ta).kids → Calls Tryd.prog 13 #[.agg #[.int .i64 (sub τ ta).kind, .string (sub τ ta).name, .slice za5 (sub τ ta).kids.length zc5], .agg #[.int .i64 (sub τ ta).kind, .string (sub τ ta).name, .slice za8 (sub τ ta).kids.length zc8]] V fun e Y => e = .returned (.bool true) ∧ Below V.heap.size V Y)
    (HC14 : ∀ V, (UZ w b5 b7 b8 ta tc pa pc ca cc xa xc l mv q V ∧ UY w p sa sn sc k b5 b6 b7 ta tb tc pa pb pc ca cb cc V) → Calls Tryd.prog 14 #[.agg #[.slice xa l.length xc], .agg #[.int .i64 (tc).kind, .string (tc).name, .slice pc (tc).kids.length cc]] V fun e Y => (∃ za zc, e = .returned (.agg #[.int .i64 (sub τ tc).kind, .string (sub τ tc).name, .slice za (sub τ tc).kids.length zc]) ∧ TysAt Y (.slice za (sub τ tc).kids.length zc) (sub τ tc).kids) ∧ Below V.heap.size V Y)
    (HC17 : ∀ V, (UZ w b5 b7 b8 ta tc pa pc ca cc xa xc l mv q V ∧ UY w p sa sn sc k b5 b6 b7 ta tb tc pa pb pc ca cb cc V) → Calls Tryd.prog 15 #[mv, .agg #[.int .i64 (tc).kind, .string (tc).name, .slice pc (tc).kids.length cc]] V fun e Y => (∃ za zc, e = .returned (.agg #[.int .i64 (sub τ tc).kind, .string (sub τ tc).name, .slice za (sub τ tc).kids.length zc]) ∧ TysAt Y (.slice za (sub τ tc).kids.length zc) (sub τ tc).kids) ∧ Below V.heap.size V Y)
    (HC18 : ∀ V, (UZ w b5 b7 b8 ta tc pa pc ca cc xa xc l mv q V ∧ UY w p sa sn sc k b5 b6 b7 ta tb tc pa pb pc ca cb cc V) → ∀ za14, ∀ zc14, TysAt V (.slice za14 (sub τ tc).kids.length zc14) (sub τ tc).kids → ∀ za17, ∀ zc17, TysAt V (.slice za17 (sub τ tc).kids.length zc17) (sub τ tc).kids → Calls Tryd.prog 13 #[.agg #[.int .i64 (sub τ tc).kind, .string (sub τ tc).name, .slice za14 (sub τ tc).kids.length zc14], .agg #[.int .i64 (sub τ tc).kind, .string (sub τ tc).name, .slice za17 (sub τ tc).kids.length zc17]] V fun e Y => e = .returned (.bool true) ∧ Below V.heap.size V Y)
    {Q : Exit → Act → World → Prop} {ops : Array Oper} (hops : ops = usaOps) (x0 : Nat → Value) (X : World) (hS : (UZ w b5 b7 b8 ta tc pa pc ca cc xa xc l mv q X.drew ∧ UY w p sa sn sc k b5 b6 b7 ta tb tc pa pb pc ca cb cc X.drew))
    (hfin : ∀ x V, (UZ w b5 b7 b8 ta tc pa pc ca cc xa xc l mv q V ∧ UY w p sa sn sc k b5 b6 b7 ta tb tc pa pb pc ca cb cc V) → x 21 = .bool false → Q .normal (usaFr b d x) V) : (Code.region 14 ops true).wp Tryd.prog Q (usaFr b d x0) X := by
  have HC := Lib.hid (And.intro HC5 (And.intro HC8 (And.intro HC9 (And.intro HC14 (And.intro HC17 HC18)))))
  clear HC5 HC8 HC9 HC14 HC17 HC18
  refine region_inv (usaFr b d) (fun V => (UZ w b5 b7 b8 ta tc pa pc ca cc xa xc l mv q V ∧ UY w p sa sn sc k b5 b6 b7 ta tb tc pa pb pc ca cb cc V)) (fun V Y => Below V.heap.size V Y) (usaVals ta tc pa pc ca cc xa xc l mv τ) x0 (by kernel_rfl) rfl hS (fun V Y h hb => ⟨h.1.below hb, h.2.below hb⟩) (fun i v V Y _ h hb => usaVals_keep i v V Y h hb) ?_ (fun x V hV h => hfin x V hV (h 21 (by rw [hops, usa_size]; decide)))
  clear hfin hS
  obtain ⟨f, hf⟩ : ∃ qq, StepAt Tryd.prog (usaFr b d) (fun V => (UZ w b5 b7 b8 ta tc pa pc ca cc xa xc l mv q V ∧ UY w p sa sn sc k b5 b6 b7 ta tb tc pa pb pc ca cb cc V)) (fun V Y => Below V.heap.size V Y) (usaVals ta tc pa pc ca cc xa xc l mv τ) ops Q = qq := ⟨_, rfl⟩
  rw [hf, hops]
  simp only [usaOps, Tryd.f3, regionIn, Option.getD_some, Nat.reduceBEq, Bool.false_eq_true, if_false, if_true, beq_self_eq_true, Array.append_empty, Array.empty_append, List.append_eq, List.cons_append, List.nil_append, AllAt, Nat.reduceAdd, Nat.zero_add]
  -- 0: slot 49 := Op.move t11
  refine And.intro ?_ ?_
  · rw [← hf]; clear hf
    refine ⟨by decide +kernel, fun x v => by kernel_rfl, fun x V hV hdep K hK => ?_⟩
    clear hdep
    refine run_bare (by kernel_rfl) ?_
    unfold usaFr
    go_simp
    refine kfit (hK _ _ (Below.refl _ V) rfl) ?_
    first | (simp only [usaFr, Act.put, List.setIfInBounds_toArray, List.set_cons_zero, List.set_cons_succ, h5, h7, h8, h10, h11]; done) | (simp only [usaFr, Act.put, List.setIfInBounds_toArray, List.set_cons_zero, List.set_cons_succ, h5, h7, h8, h10, h11]; rfl)
  -- 1: slot 50 := Op.binOp BinOp.eql 3 t49 (const (0:i64)) 3
  refine And.intro ?_ ?_
  · rw [← hf]; clear hf
    refine ⟨by decide +kernel, fun x v => by kernel_rfl, fun x V hV hdep K hK => ?_⟩
    have e0 : x 0 = .int .i64 0 := depOf hdep 0 (by decide +kernel)
    clear hdep
    refine run_bare (by kernel_rfl) ?_
    unfold usaFr
    go_simp
    refine kfit (hK _ _ (Below.refl _ V) rfl) ?_
    first | (simp only [usaFr, Act.put, List.setIfInBounds_toArray, List.set_cons_zero, List.set_cons_succ, h5, h7, h8, h10, h11, e0]; done) | (simp only [usaFr, Act.put, List.setIfInBounds_toArray, List.set_cons_zero, List.set_cons_succ, h5, h7, h8, h10, h11, e0]; rfl)
  -- 2: slot 51 := Op.move t50
  refine And.intro ?_ ?_
  · rw [← hf]; clear hf
    refine ⟨by decide +kernel, fun x v => by kernel_rfl, fun x V hV hdep K hK => ?_⟩
    have e1 : x 1 = .bool true := depOf hdep 1 (by decide +kernel)
    clear hdep
    refine run_bare (by kernel_rfl) ?_
    unfold usaFr
    go_simp
    refine kfit (hK _ _ (Below.refl _ V) rfl) ?_
    first | (simp only [usaFr, Act.put, List.setIfInBounds_toArray, List.set_cons_zero, List.set_cons_succ, h5, h7, h8, h10, h11, e1]; done) | (simp only [usaFr, Act.put, List.setIfInBounds_toArray, List.set_cons_zero, List.set_cons_succ, h5, h7, h8, h10, h11, e1]; rfl)
  -- 3: slot 52 := Op.load 33 t8
  refine And.intro ?_ ?_
  · rw [← hf]; clear hf
    refine ⟨by decide +kernel, fun x v => by kernel_rfl, fun x V hV hdep K hK => ?_⟩
    have e2 : x 2 = .bool true := depOf hdep 2 (by decide +kernel)
    clear hdep
    refine run_guard 2 51 (x 2) (by kernel_rfl) (by rw [hops]; exact usa_dst_2) (by kernel_rfl) e2 ?_; clear hops
    unfold usaFr
    obtain ⟨⟨y0, y1, y2⟩, ⟨y3, y4, y5⟩, y6⟩ := UZ.cells hV.1
    go_simp
    refine kfit (hK _ _ (Below.refl _ V) rfl) ?_
    first | (simp only [usaFr, Act.put, List.setIfInBounds_toArray, List.set_cons_zero, List.set_cons_succ, h5, h7, h8, h10, h11, e2]; done) | (simp only [usaFr, Act.put, List.setIfInBounds_toArray, List.set_cons_zero, List.set_cons_succ, h5, h7, h8, h10, h11, e2]; rfl)
  -- 4: slot 53 := Op.load 29 t5
  refine And.intro ?_ ?_
  · rw [← hf]; clear hf
    refine ⟨by decide +kernel, fun x v => by kernel_rfl, fun x V hV hdep K hK => ?_⟩
    have e2 : x 2 = .bool true := depOf hdep 2 (by decide +kernel)
    clear hdep
    refine run_guard 2 51 (x 2) (by kernel_rfl) (by rw [hops]; exact usa_dst_2) (by kernel_rfl) e2 ?_; clear hops
    unfold usaFr
    obtain ⟨⟨y0, y1, y2⟩, ⟨y3, y4, y5⟩, y6⟩ := UZ.cells hV.1
    go_simp
    refine kfit (hK _ _ (Below.refl _ V) rfl) ?_
    first | (simp only [usaFr, Act.put, List.setIfInBounds_toArray, List.set_cons_zero, List.set_cons_succ, h5, h7, h8, h10, h11, e2]; done) | (simp only [usaFr, Act.put, List.setIfInBounds_toArray, List.set_cons_zero, List.set_cons_succ, h5, h7, h8, h10, h11, e2]; rfl)
  -- 5: slot 54 := Op.call { value (Operand.func 14), args := #[t52, t53], argT
  refine And.intro ?_ ?_
  · rw [← hf]; clear hf
    refine ⟨by decide +kernel, fun x v => by kernel_rfl, fun x V hV hdep K hK => ?_⟩
    have e2 : x 2 = .bool true := depOf hdep 2 (by decide +kernel)
    have e3 : x 3 = .agg #[.slice xa l.length xc] := depOf hdep 3 (by decide +kernel)
    have e4 : x 4 = .agg #[.int .i64 (ta).kind, .string (ta).name, .slice pa (ta).kids.length ca] := depOf hdep 4 (by decide +kernel)
    clear hdep
    refine run_guard 2 51 (x 2) (by kernel_rfl) (by rw [hops]; exact usa_dst_2) (by kernel_rfl) e2 ?_; clear hops
    unfold usaFr
    obtain ⟨HC5, HC8, HC9, HC14, HC17, HC18⟩ := HC.out
    clear HC8 HC9 HC14 HC17 HC18
    have H := HC5 V hV
    replace H := Lib.hid H; clear HC5
    go_simp
    go_at_call 14
    refine H.out.mono ?_
    rintro e Y ⟨⟨za, zc, rfl, hq⟩, hb⟩; refine kfit (hK _ _ hb ⟨za, zc, rfl, hq⟩) ?_
    first | (simp only [usaFr, Act.put, List.setIfInBounds_toArray, List.set_cons_zero, List.set_cons_succ, h5, h7, h8, h10, h11, e2, e3, e4]; done) | (simp only [usaFr, Act.put, List.setIfInBounds_toArray, List.set_cons_zero, List.set_cons_succ, h5, h7, h8, h10, h11, e2, e3, e4]; rfl)
  -- 6: slot 55 := Op.move t10
  refine And.intro ?_ ?_
  · rw [← hf]; clear hf
    refine ⟨by decide +kernel, fun x v => by kernel_rfl, fun x V hV hdep K hK => ?_⟩
    have e2 : x 2 = .bool true := depOf hdep 2 (by decide +kernel)
    clear hdep
    refine run_guard 2 51 (x 2) (by kernel_rfl) (by rw [hops]; exact usa_dst_2) (by kernel_rfl) e2 ?_; clear hops
    unfold usaFr
    go_simp
    refine kfit (hK _ _ (Below.refl _ V) rfl) ?_
    first | (simp only [usaFr, Act.put, List.setIfInBounds_toArray, List.set_cons_zero, List.set_cons_succ, h5, h7, h8, h10, h11, e2]; done) | (simp only [usaFr, Act.put, List.setIfInBounds_toArray, List.set_cons_zero, List.set_cons_succ, h5, h7, h8, h10, h11, e2]; rfl)
  -- 7: slot 56 := Op.load 29 t5
  refine And.intro ?_ ?_
  · rw [← hf]; clear hf
    refine ⟨by decide +kernel, fun x v => by kernel_rfl, fun x V hV hdep K hK => ?_⟩
    have e2 : x 2 = .bool true := depOf hdep 2 (by decide +kernel)
    clear hdep
    refine run_guard 2 51 (x 2) (by kernel_rfl) (by rw [hops]; exact usa_dst_2) (by kernel_rfl) e2 ?_; clear hops
    unfold usaFr
    obtain ⟨⟨y0, y1, y2⟩, ⟨y3, y4, y5⟩, y6⟩ := UZ.cells hV.1
    go_simp
    refine kfit (hK _ _ (Below.refl _ V) rfl) ?_
    first | (simp only [usaFr, Act.put, List.setIfInBounds_toArray, List.set_cons_zero, List.set_cons_succ, h5, h7, h8, h10, h11, e2]; done) | (simp only [usaFr, Act.put, List.setIfInBounds_toArray, List.set_cons_zero, List.set_cons_succ, h5, h7, h8, h10, h11, e2]; rfl)
  -- 8: slot 57 := Op.call { value (Operand.func 15), args := #[t55, t56], argT
  refine And.intro ?_ ?_
  · rw [← hf]; clear hf
    refine ⟨by decide +kernel, fun x v => by kernel_rfl, fun x V hV hdep K hK => ?_⟩
    have e2 : x 2 = .bool true := depOf hdep 2 (by decide +kernel)
    have e6 : x 6 = mv := depOf hdep 6 (by decide +kernel)
    have e7 : x 7 = .agg #[.int .i64 (ta).kind, .string (ta).name, .slice pa (ta).kids.length ca] := depOf hdep 7 (by decide +kernel)
    clear hdep
    refine run_guard 2 51 (x 2) (by kernel_rfl) (by rw [hops]; exact usa_dst_2) (by kernel_rfl) e2 ?_; clear hops
    unfold usaFr
    obtain ⟨HC5, HC8, HC9, HC14, HC17, HC18⟩ := HC.out
    clear HC5 HC9 HC14 HC17 HC18
    have H := HC8 V hV
    replace H := Lib.hid H; clear HC8
    go_simp
    go_at_call 15
    refine H.out.mono ?_
    rintro e Y ⟨⟨za, zc, rfl, hq⟩, hb⟩; refine kfit (hK _ _ hb ⟨za, zc, rfl, hq⟩) ?_
    first | (simp only [usaFr, Act.put, List.setIfInBounds_toArray, List.set_cons_zero, List.set_cons_succ, h5, h7, h8, h10, h11, e2, e6, e7]; done) | (simp only [usaFr, Act.put, List.setIfInBounds_toArray, List.set_cons_zero, List.set_cons_succ, h5, h7, h8, h10, h11, e2, e6, e7]; rfl)
  -- 9: slot 58 := Op.call { value (Operand.func 13), args := #[t54, t57], argT
  refine And.intro ?_ ?_
  · rw [← hf]; clear hf
    refine ⟨by decide +kernel, fun x v => by kernel_rfl, fun x V hV hdep K hK => ?_⟩
    have e2 : x 2 = .bool true := depOf hdep 2 (by decide +kernel)
    obtain ⟨za5, zc5, e5, d5⟩ : ∃ za5 zc5, x 5 = .agg #[.int .i64 (sub τ ta).kind, .string (sub τ ta).name, .slice za5 (sub τ ta).kids.length zc5] ∧ TysAt V (.slice za5 (sub τ ta).kids.length zc5) (sub τ ta).kids := depOf hdep 5 (by decide +kernel)
    obtain ⟨za8, zc8, e8, d8⟩ : ∃ za8 zc8, x 8 = .agg #[.int .i64 (sub τ ta).kind, .string (sub τ ta).name, .slice za8 (sub τ ta).kids.length zc8] ∧ TysAt V (.slice za8 (sub τ ta).kids.length zc8) (sub τ ta).kids := depOf hdep 8 (by decide +kernel)
    clear hdep
    refine run_guard 2 51 (x 2) (by kernel_rfl) (by rw [hops]; exact usa_dst_2) (by kernel_rfl) e2 ?_; clear hops
    unfold usaFr
    obtain ⟨HC5, HC8, HC9, HC14, HC17, HC18⟩ := HC.out
    clear HC5 HC8 HC14 HC17 HC18
    have H := HC9 V hV _ _ d5 _ _ d8
    replace H := Lib.hid H; clear HC9
    go_simp
    go_at_call 13
    refine H.out.mono ?_
    rintro e Y ⟨rfl, hb⟩; refine kfit (hK _ _ hb rfl) ?_
    first | (simp only [usaFr, Act.put, List.setIfInBounds_toArray, List.set_cons_zero, List.set_cons_succ, h5, h7, h8, h10, h11, e2, e5, e8]; done) | (simp only [usaFr, Act.put, List.setIfInBounds_toArray, List.set_cons_zero, List.set_cons_succ, h5, h7, h8, h10, h11, e2, e5, e8]; rfl)
  -- 10: slot 59 := Op.unOp UnOp.not 4 t58
  refine And.intro ?_ ?_
  · rw [← hf]; clear hf
    refine ⟨by decide +kernel, fun x v => by kernel_rfl, fun x V hV hdep K hK => ?_⟩
    have e2 : x 2 = .bool true := depOf hdep 2 (by decide +kernel)
    have e9 : x 9 = .bool true := depOf hdep 9 (by decide +kernel)
    clear hdep
    refine run_guard 2 51 (x 2) (by kernel_rfl) (by rw [hops]; exact usa_dst_2) (by kernel_rfl) e2 ?_; clear hops
    unfold usaFr
    go_simp
    refine kfit (hK _ _ (Below.refl _ V) rfl) ?_
    first | (simp only [usaFr, Act.put, List.setIfInBounds_toArray, List.set_cons_zero, List.set_cons_succ, h5, h7, h8, h10, h11, e2, e9]; done) | (simp only [usaFr, Act.put, List.setIfInBounds_toArray, List.set_cons_zero, List.set_cons_succ, h5, h7, h8, h10, h11, e2, e9]; rfl)
  -- 11: slot 60 := Op.move t59
  refine And.intro ?_ ?_
  · rw [← hf]; clear hf
    refine ⟨by decide +kernel, fun x v => by kernel_rfl, fun x V hV hdep K hK => ?_⟩
    have e2 : x 2 = .bool true := depOf hdep 2 (by decide +kernel)
    have e10 : x 10 = .bool false := depOf hdep 10 (by decide +kernel)
    clear hdep
    refine run_guard 2 51 (x 2) (by kernel_rfl) (by rw [hops]; exact usa_dst_2) (by kernel_rfl) e2 ?_; clear hops
    unfold usaFr
    go_simp
    refine kfit (hK _ _ (Below.refl _ V) rfl) ?_
    first | (simp only [usaFr, Act.put, List.setIfInBounds_toArray, List.set_cons_zero, List.set_cons_succ, h5, h7, h8, h10, h11, e2, e10]; done) | (simp only [usaFr, Act.put, List.setIfInBounds_toArray, List.set_cons_zero, List.set_cons_succ, h5, h7, h8, h10, h11, e2, e10]; rfl)
  -- 12: slot 61 := Op.load 33 t8
  refine And.intro ?_ ?_
  · rw [← hf]; clear hf
    refine ⟨by decide +kernel, fun x v => by kernel_rfl, fun x V hV hdep K hK => ?_⟩
    have e11 : x 11 = .bool false := depOf hdep 11 (by decide +kernel)
    clear hdep
    refine run_guardF 11 60 (x 11) (by kernel_rfl) (by rw [hops]; exact usa_dst_11) (by kernel_rfl) e11 ?_; clear hops
    unfold usaFr
    obtain ⟨⟨y0, y1, y2⟩, ⟨y3, y4, y5⟩, y6⟩ := UZ.cells hV.1
    go_simp
    refine kfit (hK _ _ (Below.refl _ V) rfl) ?_
    first | (simp only [usaFr, Act.put, List.setIfInBounds_toArray, List.set_cons_zero, List.set_cons_succ, h5, h7, h8, h10, h11, e11]; done) | (simp only [usaFr, Act.put, List.setIfInBounds_toArray, List.set_cons_zero, List.set_cons_succ, h5, h7, h8, h10, h11, e11]; rfl)
  -- 13: slot 62 := Op.load 29 t7
  refine And.intro ?_ ?_
  · rw [← hf]; clear hf
    refine ⟨by decide +kernel, fun x v => by kernel_rfl, fun x V hV hdep K hK => ?_⟩
    have e11 : x 11 = .bool false := depOf hdep 11 (by decide +kernel)
    clear hdep
    refine run_guardF 11 60 (x 11) (by kernel_rfl) (by rw [hops]; exact usa_dst_11) (by kernel_rfl) e11 ?_; clear hops
    unfold usaFr
    obtain ⟨⟨y0, y1, y2⟩, ⟨y3, y4, y5⟩, y6⟩ := UZ.cells hV.1
    go_simp
    refine kfit (hK _ _ (Below.refl _ V) rfl) ?_
    first | (simp only [usaFr, Act.put, List.setIfInBounds_toArray, List.set_cons_zero, List.set_cons_succ, h5, h7, h8, h10, h11, e11]; done) | (simp only [usaFr, Act.put, List.setIfInBounds_toArray, List.set_cons_zero, List.set_cons_succ, h5, h7, h8, h10, h11, e11]; rfl)
  -- 14: slot 63 := Op.call { value (Operand.func 14), args := #[t61, t62], argT
  refine And.intro ?_ ?_
  · rw [← hf]; clear hf
    refine ⟨by decide +kernel, fun x v => by kernel_rfl, fun x V hV hdep K hK => ?_⟩
    have e11 : x 11 = .bool false := depOf hdep 11 (by decide +kernel)
    have e12 : x 12 = .agg #[.slice xa l.length xc] := depOf hdep 12 (by decide +kernel)
    have e13 : x 13 = .agg #[.int .i64 (tc).kind, .string (tc).name, .slice pc (tc).kids.length cc] := depOf hdep 13 (by decide +kernel)
    clear hdep
    refine run_guardF 11 60 (x 11) (by kernel_rfl) (by rw [hops]; exact usa_dst_11) (by kernel_rfl) e11 ?_; clear hops
    unfold usaFr
    obtain ⟨HC5, HC8, HC9, HC14, HC17, HC18⟩ := HC.out
    clear HC5 HC8 HC9 HC17 HC18
    have H := HC14 V hV
    replace H := Lib.hid H; clear HC14
    go_simp
    go_at_call 14
    refine H.out.mono ?_
    rintro e Y ⟨⟨za, zc, rfl, hq⟩, hb⟩; refine kfit (hK _ _ hb ⟨za, zc, rfl, hq⟩) ?_
    first | (simp only [usaFr, Act.put, List.setIfInBounds_toArray, List.set_cons_zero, List.set_cons_succ, h5, h7, h8, h10, h11, e11, e12, e13]; done) | (simp only [usaFr, Act.put, List.setIfInBounds_toArray, List.set_cons_zero, List.set_cons_succ, h5, h7, h8, h10, h11, e11, e12, e13]; rfl)
  -- 15: slot 64 := Op.move t10
  refine And.intro ?_ ?_
  · rw [← hf]; clear hf
    refine ⟨by decide +kernel, fun x v => by kernel_rfl, fun x V hV hdep K hK => ?_⟩
    have e11 : x 11 = .bool false := depOf hdep 11 (by decide +kernel)
    clear hdep
    refine run_guardF 11 60 (x 11) (by kernel_rfl) (by rw [hops]; exact usa_dst_11) (by kernel_rfl) e11 ?_; clear hops
    unfold usaFr
    go_simp
    refine kfit (hK _ _ (Below.refl _ V) rfl) ?_
    first | (simp only [usaFr, Act.put, List.setIfInBounds_toArray, List.set_cons_zero, List.set_cons_succ, h5, h7, h8, h10, h11, e11]; done) | (simp only [usaFr, Act.put, List.setIfInBounds_toArray, List.set_cons_zero, List.set_cons_succ, h5, h7, h8, h10, h11, e11]; rfl)
  -- 16: slot 65 := Op.load 29 t7
  refine And.intro ?_ ?_
  · rw [← hf]; clear hf
    refine ⟨by decide +kernel, fun x v => by kernel_rfl, fun x V hV hdep K hK => ?_⟩
    have e11 : x 11 = .bool false := depOf hdep 11 (by decide +kernel)
    clear hdep
    refine run_guardF 11 60 (x 11) (by kernel_rfl) (by rw [hops]; exact usa_dst_11) (by kernel_rfl) e11 ?_; clear hops
    unfold usaFr
    obtain ⟨⟨y0, y1, y2⟩, ⟨y3, y4, y5⟩, y6⟩ := UZ.cells hV.1
    go_simp
    refine kfit (hK _ _ (Below.refl _ V) rfl) ?_
    first | (simp only [usaFr, Act.put, List.setIfInBounds_toArray, List.set_cons_zero, List.set_cons_succ, h5, h7, h8, h10, h11, e11]; done) | (simp only [usaFr, Act.put, List.setIfInBounds_toArray, List.set_cons_zero, List.set_cons_succ, h5, h7, h8, h10, h11, e11]; rfl)
  -- 17: slot 66 := Op.call { value (Operand.func 15), args := #[t64, t65], argT
  refine And.intro ?_ ?_
  · rw [← hf]; clear hf
    refine ⟨by decide +kernel, fun x v => by kernel_rfl, fun x V hV hdep K hK => ?_⟩
    have e11 : x 11 = .bool false := depOf hdep 11 (by decide +kernel)
    have e15 : x 15 = mv := depOf hdep 15 (by decide +kernel)
    have e16 : x 16 = .agg #[.int .i64 (tc).kind, .string (tc).name, .slice pc (tc).kids.length cc] := depOf hdep 16 (by decide +kernel)
    clear hdep
    refine run_guardF 11 60 (x 11) (by kernel_rfl) (by rw [hops]; exact usa_dst_11) (by kernel_rfl) e11 ?_; clear hops
    unfold usaFr
    obtain ⟨HC5, HC8, HC9, HC14, HC17, HC18⟩ := HC.out
    clear HC5 HC8 HC9 HC14 HC18
    have H := HC17 V hV
    replace H := Lib.hid H; clear HC17
    go_simp
    go_at_call 15
    refine H.out.mono ?_
    rintro e Y ⟨⟨za, zc, rfl, hq⟩, hb⟩; refine kfit (hK _ _ hb ⟨za, zc, rfl, hq⟩) ?_
    first | (simp only [usaFr, Act.put, List.setIfInBounds_toArray, List.set_cons_zero, List.set_cons_succ, h5, h7, h8, h10, h11, e11, e15, e16]; done) | (simp only [usaFr, Act.put, List.setIfInBounds_toArray, List.set_cons_zero, List.set_cons_succ, h5, h7, h8, h10, h11, e11, e15, e16]; rfl)
  -- 18: slot 67 := Op.call { value (Operand.func 13), args := #[t63, t66], argT
  refine And.intro ?_ ?_
  · rw [← hf]; clear hf
    refine ⟨by decide +kernel, fun x v => by kernel_rfl, fun x V hV hdep K hK => ?_⟩
    have e11 : x 11 = .bool false := depOf hdep 11 (by decide +kernel)
    obtain ⟨za14, zc14, e14, d14⟩ : ∃ za14 zc14, x 14 = .agg #[.int .i64 (sub τ tc).kind, .string (sub τ tc).name, .slice za14 (sub τ tc).kids.length zc14] ∧ TysAt V (.slice za14 (sub τ tc).kids.length zc14) (sub τ tc).kids := depOf hdep 14 (by decide +kernel)
    obtain ⟨za17, zc17, e17, d17⟩ : ∃ za17 zc17, x 17 = .agg #[.int .i64 (sub τ tc).kind, .string (sub τ tc).name, .slice za17 (sub τ tc).kids.length zc17] ∧ TysAt V (.slice za17 (sub τ tc).kids.length zc17) (sub τ tc).kids := depOf hdep 17 (by decide +kernel)
    clear hdep
    refine run_guardF 11 60 (x 11) (by kernel_rfl) (by rw [hops]; exact usa_dst_11) (by kernel_rfl) e11 ?_; clear hops
    unfold usaFr
    obtain ⟨HC5, HC8, HC9, HC14, HC17, HC18⟩ := HC.out
    clear HC5 HC8 HC9 HC14 HC17
    have H := HC18 V hV _ _ d14 _ _ d17
    replace H := Lib.hid H; clear HC18
    go_simp
    go_at_call 13
    refine H.out.mono ?_
    rintro e Y ⟨rfl, hb⟩; refine kfit (hK _ _ hb rfl) ?_
    first | (simp only [usaFr, Act.put, List.setIfInBounds_toArray, List.set_cons_zero, List.set_cons_succ, h5, h7, h8, h10, h11, e11, e14, e17]; done) | (simp only [usaFr, Act.put, List.setIfInBounds_toArray, List.set_cons_zero, List.set_cons_succ, h5, h7, h8, h10, h11, e11, e14, e17]; rfl)
  -- 19: slot 68 := Op.unOp UnOp.not 4 t67
  refine And.intro ?_ ?_
  · rw [← hf]; clear hf
    refine ⟨by decide +kernel, fun x v => by kernel_rfl, fun x V hV hdep K hK => ?_⟩
    have e11 : x 11 = .bool false := depOf hdep 11 (by decide +kernel)
    have e18 : x 18 = .bool true := depOf hdep 18 (by decide +kernel)
    clear hdep
    refine run_guardF 11 60 (x 11) (by kernel_rfl) (by rw [hops]; exact usa_dst_11) (by kernel_rfl) e11 ?_; clear hops
    unfold usaFr
    go_simp
    refine kfit (hK _ _ (Below.refl _ V) rfl) ?_
    first | (simp only [usaFr, Act.put, List.setIfInBounds_toArray, List.set_cons_zero, List.set_cons_succ, h5, h7, h8, h10, h11, e11, e18]; done) | (simp only [usaFr, Act.put, List.setIfInBounds_toArray, List.set_cons_zero, List.set_cons_succ, h5, h7, h8, h10, h11, e11, e18]; rfl)
  -- 20: slot 69 := Op.pick t60 (const (Value.bool true)) t68
  refine And.intro ?_ ?_
  · rw [← hf]; clear hf
    refine ⟨by decide +kernel, fun x v => by kernel_rfl, fun x V hV hdep K hK => ?_⟩
    have e2 : x 2 = .bool true := depOf hdep 2 (by decide +kernel)
    have e11 : x 11 = .bool false := depOf hdep 11 (by decide +kernel)
    have e19 : x 19 = .bool false := depOf hdep 19 (by decide +kernel)
    clear hdep
    refine run_guard 2 51 (x 2) (by kernel_rfl) (by rw [hops]; exact usa_dst_2) (by kernel_rfl) e2 ?_; clear hops
    unfold usaFr
    go_simp
    refine kfit (hK _ _ (Below.refl _ V) rfl) ?_
    first | (simp only [usaFr, Act.put, List.setIfInBounds_toArray, List.set_cons_zero, List.set_cons_succ, h5, h7, h8, h10, h11, e2, e11, e19]; done) | (simp only [usaFr, Act.put, List.setIfInBounds_toArray, List.set_cons_zero, List.set_cons_succ, h5, h7, h8, h10, h11, e2, e11, e19]; rfl)
  -- 21: slot 70 := Op.pick t51 t69 (const (Value.bool false))
  refine And.intro ?_ ?_
  · rw [← hf]; clear hf
    refine ⟨by decide +kernel, fun x v => by kernel_rfl, fun x V hV hdep K hK => ?_⟩
    have e2 : x 2 = .bool true := depOf hdep 2 (by decide +kernel)
    have e20 : x 20 = .bool false := depOf hdep 20 (by decide +kernel)
    clear hdep
    refine run_bare (by kernel_rfl) ?_
    unfold usaFr
    go_simp
    refine kfit (hK _ _ (Below.refl _ V) rfl) ?_
    first | (simp only [usaFr, Act.put, List.setIfInBounds_toArray, List.set_cons_zero, List.set_cons_succ, h5, h7, h8, h10, h11, e2, e20]; done) | (simp only [usaFr, Act.put, List.setIfInBounds_toArray, List.set_cons_zero, List.set_cons_succ, h5, h7, h8, h10, h11, e2, e20]; rfl)
  exact trivial
theorem usa_here {w : World} {b5 b7 b8 : Nat} {ta tc : T} {pa pc : Option Addr} {ca cc : Nat} {xa : Option Addr} {xc : Nat} {l : List PR} {mv : Value} {q : List PR} {τ : Sg} {p sn sc k b6 : Nat} {sa : Option Addr} {tb : T} {pb : Option Addr} {cb : Nat}
    (HC5 : ∀ V, (UZ w b5 b7 b8 ta tc pa pc ca cc xa xc l mv q V ∧ UY w p sa sn sc k b5 b6 b7 ta tb tc pa pb pc ca cb cc V) → Calls Tryd.prog 14 #[.agg #[.slice xa l.length xc], .agg #[.int .i64 (ta).kind, .string (ta).name, .slice pa (ta).kids.length ca]] V fun e Y => (∃ za zc, e = .returned (.agg #[.int .i64 (sub τ ta).kind, .string (sub τ ta).name, .slice za (sub τ ta).kids.length zc]) ∧ TysAt Y (.slice za (sub τ ta).kids.length zc) (sub τ ta).kids) ∧ Below V.heap.size V Y)
    (HC8 : ∀ V, (UZ w b5 b7 b8 ta tc pa pc ca cc xa xc l mv q V ∧ UY w p sa sn sc k b5 b6 b7 ta tb tc pa pb pc ca cb cc V) → Calls Tryd.prog 15 #[mv, .agg #[.int .i64 (ta).kind, .string (ta).name, .slice pa (ta).kids.length ca]] V fun e Y => (∃ za zc, e = .returned (.agg #[.int .i64 (sub τ ta).kind, .string (sub τ ta).name, .slice za (sub τ ta).kids.length zc]) ∧ TysAt Y (.slice za (sub τ ta).kids.length zc) (sub τ ta).kids) ∧ Below V.heap.size V Y)
    (HC9 : ∀ V, (UZ w b5 b7 b8 ta tc pa pc ca cc xa xc l mv q V ∧ UY w p sa sn sc k b5 b6 b7 ta tb tc pa pb pc ca cb cc V) → ∀ za5, ∀ zc5, TysAt V (.slice za5 (sub τ ta).kids.length zc5) (sub τ ta).kids → ∀ za8, ∀ zc8, TysAt V (.slice za8 (sub τ ta).kids.length zc8) (sub τ ta).kids → Calls Tryd.prog 13 #[.agg #[.int .i64 (sub τ ta).kind, .string (sub τ ta).name, .slice za5 (sub τ ta).kids.length zc5], .agg #[.int .i64 (sub τ ta).kind, .string (sub τ ta).name, .slice za8 (sub τ ta).kids.length zc8]] V fun e Y => e = .returned (.bool true) ∧ Below V.heap.size V Y)
    (HC14 : ∀ V, (UZ w b5 b7 b8 ta tc pa pc ca cc xa xc l mv q V ∧ UY w p sa sn sc k b5 b6 b7 ta tb tc pa pb pc ca cb cc V) → Calls Tryd.prog 14 #[.agg #[.slice xa l.length xc], .agg #[.int .i64 (tc).kind, .string (tc).name, .slice pc (tc).kids.length cc]] V fun e Y => (∃ za zc, e = .returned (.agg #[.int .i64 (sub τ tc).kind, .string (sub τ tc).name, .slice za (sub τ tc).kids.length zc]) ∧ TysAt Y (.slice za (sub τ tc).kids.length zc) (sub τ tc).kids) ∧ Below V.heap.size V Y)
    (HC17 : ∀ V, (UZ w b5 b7 b8 ta tc pa pc ca cc xa xc l mv q V ∧ UY w p sa sn sc k b5 b6 b7 ta tb tc pa pb pc ca cb cc V) → Calls Tryd.prog 15 #[mv, .agg #[.int .i64 (tc).kind, .string (tc).name, .slice pc (tc).kids.length cc]] V fun e Y => (∃ za zc, e = .returned (.agg #[.int .i64 (sub τ tc).kind, .string (sub τ tc).name, .slice za (sub τ tc).kids.length zc]) ∧ TysAt Y (.slice za (sub τ tc).kids.length zc) (sub τ tc).kids) ∧ Below V.heap.size V Y)
    (HC18 : ∀ V, (UZ w b5 b7 b8 ta tc pa pc ca cc xa xc l mv q V ∧ UY w p sa sn sc k b5 b6 b7 ta tb tc pa pb pc ca cb cc V) → ∀ za14, ∀ zc14, TysAt V (.slice za14 (sub τ tc).kids.length zc14) (sub τ tc).kids → ∀ za17, ∀ zc17, TysAt V (.slice za17 (sub τ tc).kids.length zc17) (sub τ tc).kids → Calls Tryd.prog 13 #[.agg #[.int .i64 (sub τ tc).kind, .string (sub τ tc).name, .slice za14 (sub τ tc).kids.length zc14], .agg #[.int .i64 (sub τ tc).kind, .string (sub τ tc).name, .slice za17 (sub τ tc).kids.length zc17]] V fun e Y => e = .returned (.bool true) ∧ Below V.heap.size V Y)
    {Q : Exit → Act → World → Prop} {ops : Array Oper} {a : Act} (X : World) (hops : ops = usaOps)
    (h5 : a.tmps.getD 5 undef = .pointer (some ⟨b5, 0, none⟩)) (h7 : a.tmps.getD 7 undef = .pointer (some ⟨b7, 0, none⟩)) (h8 : a.tmps.getD 8 undef = .pointer (some ⟨b8, 0, none⟩)) (h10 : a.tmps.getD 10 undef = mv) (h11 : a.tmps.getD 11 undef = .int .i64 0)
    (ha : a = usaFr (fun j => a.tmps.getD j undef) a.defers (fun i => a.tmps.getD (if i = 21 then 70 else 49 + i) undef)) (hS : (UZ w b5 b7 b8 ta tc pa pc ca cc xa xc l mv q X.drew ∧ UY w p sa sn sc k b5 b6 b7 ta tb tc pa pb pc ca cb cc X.drew))
    (hfin : ∀ x V, (UZ w b5 b7 b8 ta tc pa pc ca cc xa xc l mv q V ∧ UY w p sa sn sc k b5 b6 b7 ta tb tc pa pb pc ca cb cc V) → x 21 = .bool false → Q .normal (usaFr (fun j => a.tmps.getD j undef) a.defers x) V) : (Code.region 14 ops true).wp Tryd.prog Q a X :=
  cast (congrArg (fun z => (Code.region 14 ops true).wp Tryd.prog Q z X) ha.symm) (usa_region (b := fun j => a.tmps.getD j undef) (d := a.defers) h5 h7 h8 h10 h11 HC5 HC8 HC9 HC14 HC17 HC18 hops _ X hS hfin)
end Go.Proofs.YtdcfemojkdoakaaDoor
/- UnifySays: its last statement, a region of 12 operations that draws its order, by an invariant. (Made by a program.) -/
namespace Go.Proofs.YtdcfemojkdoakaaDoor
open Go.RowKit Go.Sort Go.Lib
attribute [local go_sem] Oper.semAt_some

noncomputable def usbOps : Array Oper := regionIn 16 (Tryd.f3.body.getD .skip)
def usbFr (b : Nat → Value) (d : List Deferred) (x : Nat → Value) : Act := { tmps := #[b 0, b 1, b 2, b 3, b 4, b 5, b 6, b 7, b 8, b 9, b 10, b 11, x 11, b 13, b 14, b 15, b 16, b 17, b 18, b 19, b 20, b 21, b 22, b 23, b 24, b 25, b 26, b 27, b 28, b 29, b 30, b 31, b 32, b 33, b 34, b 35, b 36, b 37, b 38, b 39, b 40, b 41, b 42, b 43, b 44, b 45, b 46, b 47, b 48, b 49, b 50, b 51, b 52, b 53, b 54, b 55, b 56, b 57, b 58, b 59, b 60, b 61, b 62, b 63, b 64, b 65, b 66, b 67, b 68, b 69, b 70, x 0, x 1, x 2, x 3, x 4, x 5, x 6, x 7, x 8, x 9, x 10, b 82, b 83, b 84, b 85, b 86, b 87, b 88, b 89, b 90, b 91, b 92, b 93, b 94, b 95, b 96, b 97, b 98, b 99, b 100, b 101, b 102, b 103, b 104, b 105, b 106, b 107, b 108, b 109, b 110, b 111, b 112, b 113, b 114, b 115, b 116, b 117, b 118, b 119], defers := d }

def usbVals (p : Nat) (ta tb tc : T) (pa pb pc : Option Addr) (ca cb cc : Nat) (i : Nat) (v : Value) (V : World) : Prop :=
  match i with
  | 0 => v = .agg #[.int .i64 (ta).kind, .string (ta).name, .slice pa (ta).kids.length ca]
  | 1 => v = .agg #[.int .i64 (tb).kind, .string (tb).name, .slice pb (tb).kids.length cb]
  | 2 => v = .agg #[.int .i64 ta.kind, .string ta.name, .slice pa ta.kids.length ca, .int .i64 tb.kind, .string tb.name, .slice pb tb.kids.length cb]
  | 3 => v = .agg #[.int .i64 (tb).kind, .string (tb).name, .slice pb (tb).kids.length cb]
  | 4 => v = .agg #[.int .i64 (tc).kind, .string (tc).name, .slice pc (tc).kids.length cc]
  | 5 => v = .agg #[.int .i64 tb.kind, .string tb.name, .slice pb tb.kids.length cb, .int .i64 tc.kind, .string tc.name, .slice pc tc.kids.length cc]
  | 6 => v = .agg #[.int .i64 (tc).kind, .string (tc).name, .slice pc (tc).kids.length cc]
  | 7 => v = .pointer (some ⟨p, 0, none⟩)
  | 8 => ∃ (zt : T) (za : Option Addr) (zc : Nat), v = .agg #[.int .i64 zt.kind, .string zt.name, .slice za zt.kids.length zc] ∧ (T.Good zt ∧ Fits zt ∧ (T.text zt).length + 10 ≤ 112) ∧ TysAt V (.slice za zt.kids.length zc) zt.kids
  | 9 => ∃ (zt : T) (za : Option Addr) (zc : Nat), v = .agg #[.int .i64 tc.kind, .string tc.name, .slice pc tc.kids.length cc, .int .i64 zt.kind, .string zt.name, .slice za zt.kids.length zc] ∧ (T.Good zt ∧ Fits zt ∧ (T.text zt).length + 10 ≤ 112) ∧ TysAt V (.slice za zt.kids.length zc) zt.kids
  | 10 => ∃ (zg : Nat) (zt : T) (za : Option Addr) (zc : Nat), v = .slice (some ⟨zg, 0, none⟩) 3 3 ∧ V.heap[zg]? = some (.cells #[.int .i64 ta.kind, .string ta.name, .slice pa ta.kids.length ca, .int .i64 tb.kind, .string tb.name, .slice pb tb.kids.length cb, .int .i64 tb.kind, .string tb.name, .slice pb tb.kids.length cb, .int .i64 tc.kind, .string tc.name, .slice pc tc.kids.length cc, .int .i64 tc.kind, .string tc.name, .slice pc tc.kids.length cc, .int .i64 zt.kind, .string zt.name, .slice za zt.kids.length zc] 45 (0, 0)) ∧ (T.Good zt ∧ Fits zt ∧ (T.text zt).length + 10 ≤ 112) ∧ TysAt V (.slice za zt.kids.length zc) zt.kids
  | 11 => ∃ (zg : Nat) (zt : T) (za : Option Addr) (zc : Nat), v = .slice (some ⟨zg, 0, none⟩) 3 3 ∧ V.heap[zg]? = some (.cells #[.int .i64 ta.kind, .string ta.name, .slice pa ta.kids.length ca, .int .i64 tb.kind, .string tb.name, .slice pb tb.kids.length cb, .int .i64 tb.kind, .string tb.name, .slice pb tb.kids.length cb, .int .i64 tc.kind, .string tc.name, .slice pc tc.kids.length cc, .int .i64 tc.kind, .string tc.name, .slice pc tc.kids.length cc, .int .i64 zt.kind, .string zt.name, .slice za zt.kids.length zc] 45 (0, 0)) ∧ (T.Good zt ∧ Fits zt ∧ (T.text zt).length + 10 ≤ 112) ∧ TysAt V (.slice za zt.kids.length zc) zt.kids
  | _ => True

theorem usbVals_keep {p : Nat} {ta tb tc : T} {pa pb pc : Option Addr} {ca cb cc : Nat} (i : Nat) (v : Value) (V Y : World) (h : usbVals p ta tb tc pa pb pc ca cb cc i v V) (hb : Below V.heap.size V Y) : usbVals p ta tb tc pa pb pc ca cb cc i v Y := by
  unfold usbVals at *
  split at h <;> first
    | exact h
    | (obtain ⟨zt, za, zc, e, h⟩ := h; exact ⟨zt, za, zc, e, ⟨h.1, h.2.keep (KeepT.of_below hb)⟩⟩)
    | (obtain ⟨zg, zt, za, zc, e, h⟩ := h; exact ⟨zg, zt, za, zc, e, ⟨(hb.block _ (Array.getElem?_eq_some_iff.1 h.1).1).trans h.1, h.2.1, h.2.2.keep (KeepT.of_below hb)⟩⟩)

theorem usbVals_keep2 {w : World} {p sn sc k : Nat} {sa : Option Addr} {ta tb tc : T} {pa pb pc : Option Addr} {ca cb cc : Nat} (j : Nat) (v : Value) (V Y : World) (h : usbVals p ta tb tc pa pb pc ca cb cc j v V) (hf : MkFr w.heap.size p V Y) (hs : SeqAt w.heap.size p sa sn sc k V) : usbVals p ta tb tc pa pb pc ca cb cc j v Y := by
  have hk := KeepT.of_mk hf hs
  unfold usbVals at *
  split at h <;> first
    | exact h
    | (obtain ⟨zt, za, zc, e, h⟩ := h; exact ⟨zt, za, zc, e, h.1, h.2.keep hk⟩)
    | (obtain ⟨zg, zt, za, zc, e, h⟩ := h; exact ⟨zg, zt, za, zc, e, hf.2 _ _ h.1 (fun e => by subst e; have := h.1.symm.trans hs.1.2; simp at this), h.2.1, h.2.2.keep hk⟩)

theorem usb_size : usbOps.size = 12 := by kernel_rfl
set_option linter.unusedSimpArgs false in
set_option maxRecDepth 100000 in
set_option maxHeartbeats 8000000 in
theorem usb_region {w : World} {p sn sc k b5 b6 b7 : Nat} {sa : Option Addr} {ta tb tc : T} {pa pb pc : Option Addr} {ca cb cc : Nat} (hkk : k + 16 < 1152921504606846976) (hnn : sn < 1152921504606846976) {b : Nat → Value} {d : List Deferred}
    (h4 : b 4 = .pointer (some ⟨p, 0, none⟩)) (h5 : b 5 = .pointer (some ⟨b5, 0, none⟩)) (h6 : b 6 = .pointer (some ⟨b6, 0, none⟩)) (h7 : b 7 = .pointer (some ⟨b7, 0, none⟩))
    
    {Q : Exit → Act → World → Prop} {ops : Array Oper} (hops : ops = usbOps) (x0 : Nat → Value) (X : World) (hS : UX w b5 b6 b7 ta tb tc pa pb pc ca cb cc X.drew) (hsq : SeqAt w.heap.size p sa sn sc k X.drew)
    (hfin : ∀ (x : Nat → Value) V zg zt za zc, UX w b5 b6 b7 ta tb tc pa pb pc ca cb cc V → x 11 = .slice (some ⟨zg, 0, none⟩) 3 3 → V.heap[zg]? = some (.cells #[.int .i64 ta.kind, .string ta.name, .slice pa ta.kids.length ca, .int .i64 tb.kind, .string tb.name, .slice pb tb.kids.length cb, .int .i64 tb.kind, .string tb.name, .slice pb tb.kids.length cb, .int .i64 tc.kind, .string tc.name, .slice pc tc.kids.length cc, .int .i64 tc.kind, .string tc.name, .slice pc tc.kids.length cc, .int .i64 zt.kind, .string zt.name, .slice za zt.kids.length zc] 45 (0, 0)) → (T.Good zt ∧ Fits zt ∧ (T.text zt).length + 10 ≤ 112) ∧ TysAt V (.slice za zt.kids.length zc) zt.kids → Q .normal (usbFr b d x) V) : (Code.region 16 ops true).wp Tryd.prog Q (usbFr b d x0) X := by
  refine region_mark (usbFr b d) (fun V => UX w b5 b6 b7 ta tb tc pa pb pc ca cb cc V) (fun V Y => Below V.heap.size V Y) (usbVals p ta tb tc pa pb pc ca cb cc) (UMk w p sa sn sc k) (fun i => i == 8) x0 (by kernel_rfl) rfl hS (fun _ => hsq) (fun V Y h hb => h.below hb) (fun i v V Y _ h hb => usbVals_keep  i v V Y h hb) (fun i L x v w1 w2 hs hS hM hr => UMk.keep hM hr hs v) ?_ (fun L x V hS hall hM => by obtain ⟨zg, zt, za, zc, e11, h11, h12⟩ := (hall 11 (by rw [hops, usb_size]; decide)).2; exact hfin x V zg zt za zc hS e11 h11 h12)
  clear hfin hS
  obtain ⟨f, hf⟩ : ∃ qq, (fun i o => ((fun i => i == 8) i = false → StepAt Tryd.prog (usbFr b d) (fun V => UX w b5 b6 b7 ta tb tc pa pb pc ca cb cc V) (fun V Y => Below V.heap.size V Y) (usbVals p ta tb tc pa pb pc ca cb cc) ops Q i o) ∧ ((fun i => i == 8) i = true → MarkAt Tryd.prog (usbFr b d) (fun V => UX w b5 b6 b7 ta tb tc pa pb pc ca cb cc V) (usbVals p ta tb tc pa pb pc ca cb cc) (UMk w p sa sn sc k) ops Q i o)) = qq := ⟨_, rfl⟩
  rw [hf, hops]
  simp only [usbOps, Tryd.f3, regionIn, Option.getD_some, Nat.reduceBEq, Bool.false_eq_true, if_false, if_true, beq_self_eq_true, Array.append_empty, Array.empty_append, List.append_eq, List.cons_append, List.nil_append, AllAt, Nat.reduceAdd, Nat.zero_add]
  -- 0: slot 71 := Op.load 29 t5
  refine And.intro ?_ ?_
  · rw [← hf]; clear hf
    refine ⟨fun _ => ⟨by decide +kernel, fun x v => by kernel_rfl, fun x V hV hdep K hK => ?_⟩, fun h => absurd h (by decide)⟩
    clear hdep
    refine run_bare (by kernel_rfl) ?_
    unfold usbFr
    obtain ⟨y0, y1, y2⟩ := hV.1.1.cells; obtain ⟨y3, y4, y5⟩ := hV.1.2.1.cells; obtain ⟨y6, y7, y8⟩ := hV.1.2.2.cells
    go_simp
    refine kfit (hK _ _ (Below.refl _ V) rfl) ?_
    first | (simp only [usbFr, Act.put, List.setIfInBounds_toArray, List.set_cons_zero, List.set_cons_succ, h4, h5, h6, h7]; done) | (simp only [usbFr, Act.put, List.setIfInBounds_toArray, List.set_cons_zero, List.set_cons_succ, h4, h5, h6, h7]; rfl)
  -- 1: slot 72 := Op.load 29 t6
  refine And.intro ?_ ?_
  · rw [← hf]; clear hf
    refine ⟨fun _ => ⟨by decide +kernel, fun x v => by kernel_rfl, fun x V hV hdep K hK => ?_⟩, fun h => absurd h (by decide)⟩
    clear hdep
    refine run_bare (by kernel_rfl) ?_
    unfold usbFr
    obtain ⟨y0, y1, y2⟩ := hV.1.1.cells; obtain ⟨y3, y4, y5⟩ := hV.1.2.1.cells; obtain ⟨y6, y7, y8⟩ := hV.1.2.2.cells
    go_simp
    refine kfit (hK _ _ (Below.refl _ V) rfl) ?_
    first | (simp only [usbFr, Act.put, List.setIfInBounds_toArray, List.set_cons_zero, List.set_cons_succ, h4, h5, h6, h7]; done) | (simp only [usbFr, Act.put, List.setIfInBounds_toArray, List.set_cons_zero, List.set_cons_succ, h4, h5, h6, h7]; rfl)
  -- 2: slot 73 := Op.build 45 #[(0, t71), (1, t72)]
  refine And.intro ?_ ?_
  · rw [← hf]; clear hf
    refine ⟨fun _ => ⟨by decide +kernel, fun x v => by kernel_rfl, fun x V hV hdep K hK => ?_⟩, fun h => absurd h (by decide)⟩
    have e0 : x 0 = .agg #[.int .i64 (ta).kind, .string (ta).name, .slice pa (ta).kids.length ca] := depOf hdep 0 (by decide +kernel)
    have e1 : x 1 = .agg #[.int .i64 (tb).kind, .string (tb).name, .slice pb (tb).kids.length cb] := depOf hdep 1 (by decide +kernel)
    clear hdep
    refine run_bare (by kernel_rfl) ?_
    unfold usbFr
    go_simp
    refine kfit (hK _ _ (Below.refl _ V) rfl) ?_
    first | (simp only [usbFr, Act.put, List.setIfInBounds_toArray, List.set_cons_zero, List.set_cons_succ, h4, h5, h6, h7, e0, e1]; done) | (simp only [usbFr, Act.put, List.setIfInBounds_toArray, List.set_cons_zero, List.set_cons_succ, h4, h5, h6, h7, e0, e1]; rfl)
  -- 3: slot 74 := Op.load 29 t6
  refine And.intro ?_ ?_
  · rw [← hf]; clear hf
    refine ⟨fun _ => ⟨by decide +kernel, fun x v => by kernel_rfl, fun x V hV hdep K hK => ?_⟩, fun h => absurd h (by decide)⟩
    clear hdep
    refine run_bare (by kernel_rfl) ?_
    unfold usbFr
    obtain ⟨y0, y1, y2⟩ := hV.1.1.cells; obtain ⟨y3, y4, y5⟩ := hV.1.2.1.cells; obtain ⟨y6, y7, y8⟩ := hV.1.2.2.cells
    go_simp
    refine kfit (hK _ _ (Below.refl _ V) rfl) ?_
    first | (simp only [usbFr, Act.put, List.setIfInBounds_toArray, List.set_cons_zero, List.set_cons_succ, h4, h5, h6, h7]; done) | (simp only [usbFr, Act.put, List.setIfInBounds_toArray, List.set_cons_zero, List.set_cons_succ, h4, h5, h6, h7]; rfl)
  -- 4: slot 75 := Op.load 29 t7
  refine And.intro ?_ ?_
  · rw [← hf]; clear hf
    refine ⟨fun _ => ⟨by decide +kernel, fun x v => by kernel_rfl, fun x V hV hdep K hK => ?_⟩, fun h => absurd h (by decide)⟩
    clear hdep
    refine run_bare (by kernel_rfl) ?_
    unfold usbFr
    obtain ⟨y0, y1, y2⟩ := hV.1.1.cells; obtain ⟨y3, y4, y5⟩ := hV.1.2.1.cells; obtain ⟨y6, y7, y8⟩ := hV.1.2.2.cells
    go_simp
    refine kfit (hK _ _ (Below.refl _ V) rfl) ?_
    first | (simp only [usbFr, Act.put, List.setIfInBounds_toArray, List.set_cons_zero, List.set_cons_succ, h4, h5, h6, h7]; done) | (simp only [usbFr, Act.put, List.setIfInBounds_toArray, List.set_cons_zero, List.set_cons_succ, h4, h5, h6, h7]; rfl)
  -- 5: slot 76 := Op.build 45 #[(0, t74), (1, t75)]
  refine And.intro ?_ ?_
  · rw [← hf]; clear hf
    refine ⟨fun _ => ⟨by decide +kernel, fun x v => by kernel_rfl, fun x V hV hdep K hK => ?_⟩, fun h => absurd h (by decide)⟩
    have e3 : x 3 = .agg #[.int .i64 (tb).kind, .string (tb).name, .slice pb (tb).kids.length cb] := depOf hdep 3 (by decide +kernel)
    have e4 : x 4 = .agg #[.int .i64 (tc).kind, .string (tc).name, .slice pc (tc).kids.length cc] := depOf hdep 4 (by decide +kernel)
    clear hdep
    refine run_bare (by kernel_rfl) ?_
    unfold usbFr
    go_simp
    refine kfit (hK _ _ (Below.refl _ V) rfl) ?_
    first | (simp only [usbFr, Act.put, List.setIfInBounds_toArray, List.set_cons_zero, List.set_cons_succ, h4, h5, h6, h7, e3, e4]; done) | (simp only [usbFr, Act.put, List.setIfInBounds_toArray, List.set_cons_zero, List.set_cons_succ, h4, h5, h6, h7, e3, e4]; rfl)
  -- 6: slot 77 := Op.load 29 t7
  refine And.intro ?_ ?_
  · rw [← hf]; clear hf
    refine ⟨fun _ => ⟨by decide +kernel, fun x v => by kernel_rfl, fun x V hV hdep K hK => ?_⟩, fun h => absurd h (by decide)⟩
    clear hdep
    refine run_bare (by kernel_rfl) ?_
    unfold usbFr
    obtain ⟨y0, y1, y2⟩ := hV.1.1.cells; obtain ⟨y3, y4, y5⟩ := hV.1.2.1.cells; obtain ⟨y6, y7, y8⟩ := hV.1.2.2.cells
    go_simp
    refine kfit (hK _ _ (Below.refl _ V) rfl) ?_
    first | (simp only [usbFr, Act.put, List.setIfInBounds_toArray, List.set_cons_zero, List.set_cons_succ, h4, h5, h6, h7]; done) | (simp only [usbFr, Act.put, List.setIfInBounds_toArray, List.set_cons_zero, List.set_cons_succ, h4, h5, h6, h7]; rfl)
  -- 7: slot 78 := Op.move t4
  refine And.intro ?_ ?_
  · rw [← hf]; clear hf
    refine ⟨fun _ => ⟨by decide +kernel, fun x v => by kernel_rfl, fun x V hV hdep K hK => ?_⟩, fun h => absurd h (by decide)⟩
    clear hdep
    refine run_bare (by kernel_rfl) ?_
    unfold usbFr
    go_simp
    refine kfit (hK _ _ (Below.refl _ V) rfl) ?_
    first | (simp only [usbFr, Act.put, List.setIfInBounds_toArray, List.set_cons_zero, List.set_cons_succ, h4, h5, h6, h7]; done) | (simp only [usbFr, Act.put, List.setIfInBounds_toArray, List.set_cons_zero, List.set_cons_succ, h4, h5, h6, h7]; rfl)
  -- 8: slot 79 := Op.call { value (Operand.func 9), args := #[t78, const (3:i6
  refine And.intro ?_ ?_
  · rw [← hf]; clear hf
    refine ⟨fun h => absurd h (by decide), fun _ => ⟨by decide +kernel, fun x v => by kernel_rfl, fun L x V hV hVs hMk hLi hdep K hK => ?_⟩⟩
    have e7 : x 7 = .pointer (some ⟨p, 0, none⟩) := hVs 7 (depL hdep 7 (by decide +kernel))
    have hs := hMk hLi
    have HC8 := Lib.hid (make_n3 w.heap.size p sa sn sc k V hs hkk hnn)
    refine run_bare (by kernel_rfl) ?_
    have HVs := Lib.hid hVs
    have HS := Lib.hid hV
    have HSq := Lib.hid hs
    clear hVs hMk hdep hs hV
    unfold usbFr at hK ⊢
    go_simp
    go_at_call 9
    refine HC8.out.mono ?_
    rintro e Y ⟨⟨t, u, rfl, hg, hu⟩, _, hf3⟩
    obtain ⟨a2, n2, rfl⟩ := hu.shape
    simp only [tyV] at *
    refine kfit (hK _ _ (HS.out.mk hf3 HSq.out) (fun j hj => usbVals_keep2 j _ V _ (HVs.out j hj) hf3 HSq.out) ⟨t, a2, n2, rfl, hg, hu.tys⟩ (fun e => nope e (updB_same _ _))) ?_
    first | (simp only [Act.put, List.setIfInBounds_toArray, List.set_cons_zero, List.set_cons_succ, h4, h5, h6, h7, e7]; done) | (simp only [Act.put, List.setIfInBounds_toArray, List.set_cons_zero, List.set_cons_succ, h4, h5, h6, h7, e7]; rfl)
  -- 9: slot 80 := Op.build 45 #[(0, t77), (1, t79)]
  refine And.intro ?_ ?_
  · rw [← hf]; clear hf
    refine ⟨fun _ => ⟨by decide +kernel, fun x v => by kernel_rfl, fun x V hV hdep K hK => ?_⟩, fun h => absurd h (by decide)⟩
    have e6 : x 6 = .agg #[.int .i64 (tc).kind, .string (tc).name, .slice pc (tc).kids.length cc] := depOf hdep 6 (by decide +kernel)
    obtain ⟨zt8, za8, zc8, e8, d8⟩ : ∃ (zt8 : T) (za8 : Option Addr) (zc8 : Nat), x 8 = .agg #[.int .i64 zt8.kind, .string zt8.name, .slice za8 zt8.kids.length zc8] ∧ (T.Good zt8 ∧ Fits zt8 ∧ (T.text zt8).length + 10 ≤ 112) ∧ TysAt V (.slice za8 zt8.kids.length zc8) zt8.kids := depOf hdep 8 (by decide +kernel)
    clear hdep
    refine run_bare (by kernel_rfl) ?_
    unfold usbFr
    go_simp
    refine kfit (hK _ _ (Below.refl _ V) ⟨_, _, _, rfl, d8⟩) ?_
    first | (simp only [usbFr, Act.put, List.setIfInBounds_toArray, List.set_cons_zero, List.set_cons_succ, h4, h5, h6, h7, e6, e8]; done) | (simp only [usbFr, Act.put, List.setIfInBounds_toArray, List.set_cons_zero, List.set_cons_succ, h4, h5, h6, h7, e6, e8]; rfl)
  -- 10: slot 81 := Op.buildSlice 46 3 #[(0, t73), (1, t76), (2, t80)]
  refine And.intro ?_ ?_
  · rw [← hf]; clear hf
    refine ⟨fun _ => ⟨by decide +kernel, fun x v => by kernel_rfl, fun x V hV hdep K hK => ?_⟩, fun h => absurd h (by decide)⟩
    have e2 : x 2 = .agg #[.int .i64 ta.kind, .string ta.name, .slice pa ta.kids.length ca, .int .i64 tb.kind, .string tb.name, .slice pb tb.kids.length cb] := depOf hdep 2 (by decide +kernel)
    have e5 : x 5 = .agg #[.int .i64 tb.kind, .string tb.name, .slice pb tb.kids.length cb, .int .i64 tc.kind, .string tc.name, .slice pc tc.kids.length cc] := depOf hdep 5 (by decide +kernel)
    obtain ⟨zt9, za9, zc9, e9, d9⟩ : ∃ (zt9 : T) (za9 : Option Addr) (zc9 : Nat), x 9 = .agg #[.int .i64 tc.kind, .string tc.name, .slice pc tc.kids.length cc, .int .i64 zt9.kind, .string zt9.name, .slice za9 zt9.kids.length zc9] ∧ (T.Good zt9 ∧ Fits zt9 ∧ (T.text zt9).length + 10 ≤ 112) ∧ TysAt V (.slice za9 zt9.kids.length zc9) zt9.kids := depOf hdep 9 (by decide +kernel)
    clear hdep
    refine run_bare (by kernel_rfl) ?_
    unfold usbFr
    go_simp
    refine kfit (hK _ _ (below_a _ _) ⟨_, _, _, _, rfl, alloc_new _ _, d9.1, d9.2.keep (KeepT.of_below (below_a _ _))⟩) ?_
    first | (simp only [usbFr, Act.put, List.setIfInBounds_toArray, List.set_cons_zero, List.set_cons_succ, h4, h5, h6, h7, e2, e5, e9]; done) | (simp only [usbFr, Act.put, List.setIfInBounds_toArray, List.set_cons_zero, List.set_cons_succ, h4, h5, h6, h7, e2, e5, e9]; rfl)
  -- 11: slot 12 := Op.assign t81
  refine And.intro ?_ ?_
  · rw [← hf]; clear hf
    refine ⟨fun _ => ⟨by decide +kernel, fun x v => by kernel_rfl, fun x V hV hdep K hK => ?_⟩, fun h => absurd h (by decide)⟩
    obtain ⟨zg10, zt10, za10, zc10, e10, d10⟩ : ∃ (zg10 : Nat) (zt10 : T) (za10 : Option Addr) (zc10 : Nat), x 10 = .slice (some ⟨zg10, 0, none⟩) 3 3 ∧ V.heap[zg10]? = some (.cells #[.int .i64 ta.kind, .string ta.name, .slice pa ta.kids.length ca, .int .i64 tb.kind, .string tb.name, .slice pb tb.kids.length cb, .int .i64 tb.kind, .string tb.name, .slice pb tb.kids.length cb, .int .i64 tc.kind, .string tc.name, .slice pc tc.kids.length cc, .int .i64 tc.kind, .string tc.name, .slice pc tc.kids.length cc, .int .i64 zt10.kind, .string zt10.name, .slice za10 zt10.kids.length zc10] 45 (0, 0)) ∧ (T.Good zt10 ∧ Fits zt10 ∧ (T.text zt10).length + 10 ≤ 112) ∧ TysAt V (.slice za10 zt10.kids.length zc10) zt10.kids := depOf hdep 10 (by decide +kernel)
    clear hdep
    refine run_bare (by kernel_rfl) ?_
    unfold usbFr
    go_simp
    refine kfit (hK _ _ (Below.refl _ V) ⟨_, _, _, _, rfl, d10⟩) ?_
    first | (simp only [usbFr, Act.put, List.setIfInBounds_toArray, List.set_cons_zero, List.set_cons_succ, h4, h5, h6, h7, e10]; done) | (simp only [usbFr, Act.put, List.setIfInBounds_toArray, List.set_cons_zero, List.set_cons_succ, h4, h5, h6, h7, e10]; rfl)
  exact trivial
theorem usb_here {w : World} {p sn sc k b5 b6 b7 : Nat} {sa : Option Addr} {ta tb tc : T} {pa pb pc : Option Addr} {ca cb cc : Nat} (hkk : k + 16 < 1152921504606846976) (hnn : sn < 1152921504606846976)
    
    {Q : Exit → Act → World → Prop} {ops : Array Oper} {a : Act} (X : World) (hops : ops = usbOps)
    (h4 : a.tmps.getD 4 undef = .pointer (some ⟨p, 0, none⟩)) (h5 : a.tmps.getD 5 undef = .pointer (some ⟨b5, 0, none⟩)) (h6 : a.tmps.getD 6 undef = .pointer (some ⟨b6, 0, none⟩)) (h7 : a.tmps.getD 7 undef = .pointer (some ⟨b7, 0, none⟩))
    (ha : a = usbFr (fun j => a.tmps.getD j undef) a.defers (fun i => a.tmps.getD (if i = 11 then 12 else 71 + i) undef)) (hS : UX w b5 b6 b7 ta tb tc pa pb pc ca cb cc X.drew) (hsq : SeqAt w.heap.size p sa sn sc k X.drew)
    (hfin : ∀ (x : Nat → Value) V zg zt za zc, UX w b5 b6 b7 ta tb tc pa pb pc ca cb cc V → x 11 = .slice (some ⟨zg, 0, none⟩) 3 3 → V.heap[zg]? = some (.cells #[.int .i64 ta.kind, .string ta.name, .slice pa ta.kids.length ca, .int .i64 tb.kind, .string tb.name, .slice pb tb.kids.length cb, .int .i64 tb.kind, .string tb.name, .slice pb tb.kids.length cb, .int .i64 tc.kind, .string tc.name, .slice pc tc.kids.length cc, .int .i64 tc.kind, .string tc.name, .slice pc tc.kids.length cc, .int .i64 zt.kind, .string zt.name, .slice za zt.kids.length zc] 45 (0, 0)) → (T.Good zt ∧ Fits zt ∧ (T.text zt).length + 10 ≤ 112) ∧ TysAt V (.slice za zt.kids.length zc) zt.kids → Q .normal (usbFr (fun j => a.tmps.getD j undef) a.defers x) V) : (Code.region 16 ops true).wp Tryd.prog Q a X :=
  cast (congrArg (fun z => (Code.region 16 ops true).wp Tryd.prog Q z X) ha.symm) (usb_region hkk hnn (b := fun j => a.tmps.getD j undef) (d := a.defers) h4 h5 h6 h7  hops _ X hS hsq hfin)
end Go.Proofs.YtdcfemojkdoakaaDoor
