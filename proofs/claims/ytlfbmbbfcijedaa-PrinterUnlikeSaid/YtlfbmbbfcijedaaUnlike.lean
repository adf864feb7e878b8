/- PrinterUnlike, walked. -/
import Derived.Test.YtlfbmbbfcijedaaMakeAll
import Derived.Test.YtlfbmbbfcijedaaMakeScheme
import Derived.Test.YtlfbmbbfcijedaaSchSame
import Derived.Test.YtlfbmbbfcijedaaFirst
import Derived.Deep.RegionHeld3
import Derived.Deep.DrawnRows
namespace Go.Proofs.Ytlfbmbbfcijedaa
open Go.RowKit
attribute [local go_sem] Oper.semAt_some
attribute [local go_sem ↓] Go.wp_at_zero Go.wp_at_succ

theorem SeqAt.other {B p q : Nat} {a : Option Addr} {n c k : Nat} {w w' : World} (h : SeqAt B q a n c k w) (hf : MkFr B p w w') (hq : q ≠ p) : SeqAt B q a n c k w' := ⟨⟨h.1.1, hf.2 _ _ h.1.2 hq⟩, h.2.keep hf.1⟩

theorem joins_len (l : List Pr) (h : ∀ q ∈ l, (prText q).length ≤ 20) : (joins l).length ≤ 22 * l.length := by
  induction l with
  | nil => simp [joins]
  | cons q r ih =>
    have h1 := h q (List.mem_cons_self ..)
    have h2 := ih (fun x hx => h x (List.mem_cons_of_mem _ hx))
    rw [joins]
    simp only [List.length_append, List.length_cons, List.length_nil]
    omega
theorem sch_len {l : List Pr} {t : T} {D : Nat} (h3 : l.length ≤ 3) (h : ∀ q ∈ l, (prText q).length ≤ 20) (ht : (T.text t).length + 10 ≤ D) (hD : D ≤ 1000 := by decide) : (schText l t).length ≤ room := by
  have hc : (ctxText l).length ≤ 200 := by
    match l, h3, h with
    | [], _, _ => simp [ctxText]
    | [q], _, h => have := h q (by simp); simp [ctxText]; omega
    | q :: r :: s, h3, h =>
      have h1 := h q (by simp)
      have h2 := joins_len (r :: s) (fun x hx => h x (List.mem_cons_of_mem _ hx))
      simp only [ctxText, eachP, List.length_append, List.length_cons, List.length_nil] at h2 h3 ⊢
      omega
  unfold schText room
  simp only [List.length_append]
  omega
theorem with_calls {P : Program} {f : Nat} {args : Array Value} {R : Ending → World → Prop} {w : World} (S : World → Prop) (h : S w) (k : ∀ W, S W → Calls P f args W R) : Calls P f args w R := k w h
theorem made_bel {B p : Nat} {w w' : World} (h : MkFr B p w w') {j : Nat} {o : Obj} (hj : w.heap[j]? = some o) (hp : j ≠ p) : w'.heap[j]? = some o := h.2 j o hj hp

set_option maxHeartbeats 8000000 in
theorem unlike_any (a1 a2 : Option Addr) (n1 n2 c1 c2 : Nat) (w : World) (hl1 : IntsAt w.heap.size a1 n1 w) (hl2 : IntsAt w.heap.size a2 n2 w) :
    Calls Try.prog 3 #[.slice a1 n1 c1, .slice a2 n2 c2] w fun e w' => e = .returned (.bool true) ∧ Below w.heap.size w w' := by
  have HL1 := Lib.hid hl1; have HL2 := Lib.hid hl2
  clear hl1 hl2
  by_cases hb : n1 ≤ 80 ∧ n2 ≤ 80
  · obtain ⟨hb1, hb2⟩ := hb
    have hn1 : n1 < 1152921504606846976 := by omega
    have hn2 : n2 < 1152921504606846976 := by omega
    have hb1I : ¬ ((80 : Int) < (n1 : Int)) := by omega
    have hb2I : ¬ ((80 : Int) < (n2 : Int)) := by omega
    go_enter Try.func3, Try.ntmps3
    go_wp2_with (go_at_call 5; refine (first_any _).mono ?_)
    rintro e W1 rfl hw1
    have HB1 := Lib.hid hw1; clear hw1
    go_wp2_with fail
    refine with_calls (fun W2 => (SeqAt w.heap.size W1.heap.size a1 n1 c1 0 W2 ∧ SeqAt w.heap.size (W1.heap.size + 1) a2 n2 c2 0 W2) ∧ Below w.heap.size w W2) ?_ ?_
    · have hbb := HB1.out.trans (((Below.refl _ W1).alloc (Nat.le_refl _) (.cells #[.slice a1 n1 c1, .int .i64 0] 26)).alloc (by simp) (.cells #[.slice a2 n2 c2, .int .i64 0] 26) |>.mono HB1.out.size)
      exact ⟨⟨⟨⟨HB1.out.size, (Below.heap_alloc _ _ _ (by simp)).trans (alloc_new W1 _)⟩, HL1.out.keep hbb⟩, ⟨⟨Nat.le_succ_of_le HB1.out.size, alloc_second W1 _ _⟩, HL2.out.keep hbb⟩⟩, hbb⟩
    rintro W2 ⟨⟨s1, s2⟩, hb⟩
    have S1 := Lib.hid s1; have S2 := Lib.hid s2; have HB := Lib.hid hb
    clear s1 s2 hb HB1
    generalize W1.heap.size = p at S1 S2 ⊢
    refine (make_type4 _ _ _ _ _ _ _ S1.out (by decide) hn1).mono ?_
    have hp2 : p + 1 < W2.heap.size := S2.out.lt
    rintro e W3 ⟨⟨ta, u, rfl, hga, hu⟩, ⟨k1, hk1, hs⟩, hf⟩
    obtain ⟨pa, ca, rfl⟩ := hu.shape
    have S1' := Lib.hid hs
    have S2' := Lib.hid (S2.out.other hf (by omega))
    have HB' := Lib.hid (HB.out.trans (hf.1))
    have HA := Lib.hid hu; have HGa := Lib.hid hga
    have hp3 : p + 1 < W3.heap.size := S2'.out.lt
    clear hu hs hf hga S1 S2 HB hp2
    simp only [tyV]
    go_wp2_with (go_at_call 6; refine with_calls (fun V => ((V.heap[W3.heap.size]? = some (.cells #[.int .i64 ta.kind, .string ta.name, .slice pa ta.kids.length ca] 29 (0, 0)) ∧ TysAt V (.slice pa ta.kids.length ca) ta.kids) ∧ SeqAt w.heap.size p a1 n1 c1 k1 V ∧ SeqAt w.heap.size (p + 1) a2 n2 c2 0 V) ∧ Below w.heap.size w V) ⟨⟨⟨alloc_new W3 _, HA.out.keep (keepT_alloc W3 _)⟩, S1'.out.below ((Below.refl _ W3).alloc (Nat.le_refl _) _), S2'.out.below ((Below.refl _ W3).alloc (Nat.le_refl _) _)⟩, HB'.out.alloc HB'.out.size _⟩ ?_)
    rintro W4 ⟨⟨⟨h1, h2⟩, h3, h4⟩, h5⟩
    refine (make_type4 _ _ _ _ _ _ _ h4 (by decide) hn2).mono ?_
    rintro e W5 ⟨⟨tb, u, rfl, hgb, hu⟩, ⟨k2, hk2, hs⟩, hf⟩
    obtain ⟨pb, cb, rfl⟩ := hu.shape
    have hba : W3.heap.size ≠ p + 1 := by omega
    have XA := Lib.hid (hf.2 _ _ h1 hba)
    have TA := Lib.hid (h2.keep (KeepT.of_mk hf h4))
    have Q1 := Lib.hid (h3.other hf (by omega))
    have Q2 := Lib.hid hs
    have QB := Lib.hid (h5.trans hf.1)
    have TB := Lib.hid hu; have HGb := Lib.hid hgb
    have l5 : W3.heap.size < W5.heap.size := (Array.getElem?_eq_some_iff.1 XA.out).1
    clear h1 h2 h3 h4 h5 hu hs hf hgb S1' S2' HB' HA
    simp only [tyV]
    generalize hba' : W3.heap.size = ba at XA l5 hba ⊢
    have hpa : p + 1 < ba := by omega
    clear hba' hp3
    go_wp2_with (go_at_call 7; refine with_calls (fun V => (((V.heap[ba]? = some (.cells #[.int .i64 ta.kind, .string ta.name, .slice pa ta.kids.length ca] 29 (0, 0)) ∧ TysAt V (.slice pa ta.kids.length ca) ta.kids) ∧ (V.heap[W5.heap.size]? = some (.cells #[.int .i64 tb.kind, .string tb.name, .slice pb tb.kids.length cb] 29 (0, 0)) ∧ TysAt V (.slice pb tb.kids.length cb) tb.kids)) ∧ SeqAt w.heap.size p a1 n1 c1 k1 V ∧ SeqAt w.heap.size (p + 1) a2 n2 c2 k2 V) ∧ Below w.heap.size w V) ⟨⟨⟨⟨(Below.heap_alloc W5 _ _ l5).trans XA.out, TA.out.keep (keepT_alloc W5 _)⟩, alloc_new W5 _, TB.out.keep (keepT_alloc W5 _)⟩, Q1.out.below ((Below.refl _ W5).alloc (Nat.le_refl _) _), Q2.out.below ((Below.refl _ W5).alloc (Nat.le_refl _) _)⟩, QB.out.alloc QB.out.size _⟩ ?_)
    rintro W6 ⟨⟨⟨⟨h1, h2⟩, h1', h2'⟩, h3, h4⟩, h5⟩
    refine (make_scheme _ _ _ _ _ _ 16 112 _ h3 (by omega) (by decide) hn1 (fun V hV => make_type3 _ _ _ _ _ _ V hV (by omega) hn1)).mono ?_
    rintro e W7 ⟨⟨l1, ts, sa, sm, sd, cv, u, rfl, ⟨hgl, hgt⟩, hpr, hu⟩, ⟨k3, hk3, hs⟩, hf⟩
    obtain ⟨pc, cc, rfl⟩ := hpr.shape
    obtain ⟨pd, cd, rfl⟩ := hu.shape
    have XA' := Lib.hid (hf.2 _ _ h1 (by omega))
    have TA' := Lib.hid (h2.keep (KeepT.of_mk hf h3))
    have XB := Lib.hid (hf.2 _ _ h1' (by omega))
    have TB' := Lib.hid (h2'.keep (KeepT.of_mk hf h3))
    have Q1' := Lib.hid hs
    have Q2' := Lib.hid (h4.other hf (by omega))
    have QB' := Lib.hid (h5.trans hf.1)
    have PS := Lib.hid hpr; have TS := Lib.hid hu; have GL1 := Lib.hid hgl; have GT1 := Lib.hid hgt
    have l7 : W5.heap.size < W7.heap.size := (Array.getElem?_eq_some_iff.1 XB.out).1
    clear h1 h2 h1' h2' h3 h4 h5 hpr hu hs hf hgl hgt XA TA TB Q1 Q2 QB
    simp only [schV]
    generalize hbb' : W5.heap.size = bb at XB l7 l5 ⊢
    clear hbb'
    go_wp2_with (go_at_call 7; refine with_calls (fun V => ((((V.heap[ba]? = some (.cells #[.int .i64 ta.kind, .string ta.name, .slice pa ta.kids.length ca] 29 (0, 0)) ∧ TysAt V (.slice pa ta.kids.length ca) ta.kids) ∧ (V.heap[bb]? = some (.cells #[.int .i64 tb.kind, .string tb.name, .slice pb tb.kids.length cb] 29 (0, 0)) ∧ TysAt V (.slice pb tb.kids.length cb) tb.kids)) ∧ (V.heap[W7.heap.size]? = some (.cells #[.slice sa sm sd, .slice pc l1.length cc, .int .i64 ts.kind, .string ts.name, .slice pd ts.kids.length cd] 34 (0, 0)) ∧ PrsAt V (.slice pc l1.length cc) l1 ∧ TysAt V (.slice pd ts.kids.length cd) ts.kids)) ∧ SeqAt w.heap.size (p + 1) a2 n2 c2 k2 V) ∧ Below w.heap.size w V) ⟨⟨⟨⟨⟨(Below.heap_alloc W7 _ _ (by omega)).trans XA'.out, TA'.out.keep (keepT_alloc W7 _)⟩, (Below.heap_alloc W7 _ _ l7).trans XB.out, TB'.out.keep (keepT_alloc W7 _)⟩, alloc_new W7 _, PS.out.keep (keepT_alloc W7 _) (keepP_alloc W7 _), TS.out.keep (keepT_alloc W7 _)⟩, Q2'.out.below ((Below.refl _ W7).alloc (Nat.le_refl _) _)⟩, QB'.out.alloc QB'.out.size _⟩ ?_)
    rintro W8 ⟨⟨⟨⟨⟨h1, h2⟩, h1', h2'⟩, h6, h7, h8⟩, h4⟩, h5⟩
    refine (make_scheme _ _ _ _ _ _ 16 112 _ h4 (by omega) (by decide) hn2 (fun V hV => make_type3 _ _ _ _ _ _ V hV (by omega) hn2)).mono ?_
    rintro e W9 ⟨⟨l2, tt, sb, sn, se, cv, u, rfl, ⟨hgl, hgt⟩, hpr, hu⟩, ⟨k4, hk4, hs⟩, hf⟩
    obtain ⟨pe, ce, rfl⟩ := hpr.shape
    obtain ⟨pf, cf, rfl⟩ := hu.shape
    have YA := Lib.hid (hf.2 _ _ h1 (by omega))
    have UA := Lib.hid (h2.keep (KeepT.of_mk hf h4))
    have YB := Lib.hid (hf.2 _ _ h1' (by omega))
    have UB := Lib.hid (h2'.keep (KeepT.of_mk hf h4))
    have YS := Lib.hid (hf.2 _ _ h6 (by omega))
    have VS := Lib.hid (h7.keep (KeepT.of_mk hf h4) (KeepP.of_mk hf h4))
    have US := Lib.hid (h8.keep (KeepT.of_mk hf h4))
    have RB := Lib.hid (h5.trans hf.1)
    have VT := Lib.hid hpr; have UT := Lib.hid hu; have GL2 := Lib.hid hgl; have GT2 := Lib.hid hgt
    obtain ⟨ys0, ys1, ys2, ys3, ys4⟩ := five_cells YS.out
    have fys := Lib.frozen_of_heap YS.out 0
    have l9 : W7.heap.size < W9.heap.size := (Array.getElem?_eq_some_iff.1 YS.out).1
    have l9w : w.heap.size ≤ W7.heap.size := QB'.out.size
    clear h1 h2 h1' h2' h4 h5 h6 h7 h8 hpr hu hs hf hgl hgt XA' TA' XB TB' Q1' Q2' QB' PS TS
    simp only [schV]
    generalize hbs' : W7.heap.size = bs at YS l9 l7 l9w ys0 ys1 ys2 ys3 ys4 fys ⊢
    clear hbs'
    go_upto_region 14 with fail
    refine with_world' (fun V => (((V.heap[ba]? = some (.cells #[.int .i64 ta.kind, .string ta.name, .slice pa ta.kids.length ca] 29 (0, 0)) ∧ V.heap[bb]? = some (.cells #[.int .i64 tb.kind, .string tb.name, .slice pb tb.kids.length cb] 29 (0, 0))) ∧ (V.heap[bs]? = some (.cells #[.slice none 0 0, .slice pc l1.length cc, .int .i64 ts.kind, .string ts.name, .slice pd ts.kids.length cd] 34 (0, 0)) ∧ V.heap[W9.heap.size]? = some (.cells #[.slice none 0 0, .slice pe l2.length ce, .int .i64 tt.kind, .string tt.name, .slice pf tt.kids.length cf] 34 (0, 0)))) ∧ (TysAt V (.slice pa ta.kids.length ca) ta.kids ∧ TysAt V (.slice pb tb.kids.length cb) tb.kids) ∧ ((PrsAt V (.slice pc l1.length cc) l1 ∧ TysAt V (.slice pd ts.kids.length cd) ts.kids) ∧ (PrsAt V (.slice pe l2.length ce) l2 ∧ TysAt V (.slice pf tt.kids.length cf) tt.kids))) ∧ Below w.heap.size w V) ?_ ?_
    · have he := Else.set W9 bs 0 (.slice none 0 0)
      have kt0 := KeepT.else he YS.out (by decide)
      have kp0 := KeepP.else he YS.out (by decide)
      have hsz : (W9.setCell ⟨bs, 0, none⟩ (.slice none 0 0)).heap.size = W9.heap.size := by simp [World.setCell]
      have kt := fun o : Obj => kt0.trans (keepT_alloc (W9.setCell ⟨bs, 0, none⟩ (.slice none 0 0)) o)
      have kp := fun o : Obj => kp0.trans (keepP_alloc (W9.setCell ⟨bs, 0, none⟩ (.slice none 0 0)) o)
      have ha := fun (o : Obj) (j : Nat) (hj : j < W9.heap.size) => Below.heap_alloc (W9.setCell ⟨bs, 0, none⟩ (.slice none 0 0)) o j (by rw [hsz]; exact hj)
      have hn := fun o : Obj => alloc_new (W9.setCell ⟨bs, 0, none⟩ (.slice none 0 0)) o
      rw [hsz] at hn
      exact ⟨⟨⟨⟨(ha _ _ (by omega)).trans ((he.block _ (by omega)).trans YA.out), (ha _ _ (by omega)).trans ((he.block _ (by omega)).trans YB.out)⟩, (ha _ _ l9).trans (block_set (o := 0) YS.out _), hn _⟩, ⟨UA.out.keep (kt _), UB.out.keep (kt _)⟩, ⟨VS.out.keep (kt _) (kp _), US.out.keep (kt _)⟩, VT.out.keep (kt _) (kp _), UT.out.keep (kt _)⟩, (RB.out.trans (he.below w.heap.size l9w)).alloc (by rw [hsz]; exact RB.out.size) _⟩
    rintro V ⟨⟨⟨⟨g1, g2⟩, g3, g4⟩, ⟨u1, u2⟩, ⟨u3, u4⟩, u5, u6⟩, hVw⟩
    generalize W9.heap.size = bt at g4 ⊢
    obtain ⟨z0, z1, z2⟩ := three_cells g1
    obtain ⟨z3, z4, z5⟩ := three_cells g2
    obtain ⟨z6, z7, z8, z9, z10⟩ := five_cells g3
    obtain ⟨z11, z12, z13, z14, z15⟩ := five_cells g4
    have la := (Array.getElem?_eq_some_iff.1 g1).1
    have lb := (Array.getElem?_eq_some_iff.1 g2).1
    have ls := (Array.getElem?_eq_some_iff.1 g3).1
    have lt := (Array.getElem?_eq_some_iff.1 g4).1
    have HVw := Lib.hid hVw
    have e1 : ((⟨(T.text ta).toArray⟩ : ByteArray).toList == (⟨(T.text tb).toArray⟩ : ByteArray).toList) = eqB ta tb := by
      rw [bytes_beq]
      by_cases h : ta = tb
      · rw [eqB_true h, h, eqB_true rfl]
      · rw [eqB_false h, eqB_false (fun e => h (T.text_inj HGa.out.1 HGb.out.1 (by simpa using e)))]
    have e2 : ((⟨(schText l1 ts).toArray⟩ : ByteArray).toList == (⟨(schText l2 tt).toArray⟩ : ByteArray).toList) = eqB (l1, ts) (l2, tt) := by
      rw [bytes_beq]
      by_cases h : (l1, ts) = (l2, tt)
      · rw [eqB_true h, eqB_true (by rw [(Prod.mk.inj h).1, (Prod.mk.inj h).2])]
      · rw [eqB_false h, eqB_false (fun e => h (by
          have := sch_inj (fun q hq => (GL1.out.2 q hq).1) (fun q hq => (GL2.out.2 q hq).1) GT1.out.1 GT2.out.1 (show schText l1 ts = schText l2 tt by simpa using e)
          rw [this.1, this.2]))]
    have CA := Lib.hid (fun (X : World) (k : Below V.heap.size V X) => type_any ta HGa.out.2.1 _ X (u1.keep (KeepT.of_below k)) (by have := HGa.out.2.2; unfold room; omega))
    have CB := Lib.hid (fun (X : World) (k : Below V.heap.size V X) => type_any tb HGb.out.2.1 _ X (u2.keep (KeepT.of_below k)) (by have := HGb.out.2.2; unfold room; omega))
    have CAB := Lib.hid (fun (X : World) (k : Below V.heap.size V X) => sameType_any HGa.out.2.1 (u1.keep (KeepT.of_below k)) (u2.keep (KeepT.of_below k)))
    have CS := Lib.hid (fun (X : World) (k : Below V.heap.size V X) => scheme_any l1 ts (fun q hq => (GL1.out.2 q hq).2.1) GT1.out.2.1 none 0 0 _ _ X (u3.keep (KeepT.of_below k) (KeepP.of_below k)) (u4.keep (KeepT.of_below k)) (by have := GL1.out.1; omega) (sch_len GL1.out.1 (fun q hq => (GL1.out.2 q hq).2.2) GT1.out.2.2))
    have CT := Lib.hid (fun (X : World) (k : Below V.heap.size V X) => scheme_any l2 tt (fun q hq => (GL2.out.2 q hq).2.1) GT2.out.2.1 none 0 0 _ _ X (u5.keep (KeepT.of_below k) (KeepP.of_below k)) (u6.keep (KeepT.of_below k)) (by have := GL2.out.1; omega) (sch_len GL2.out.1 (fun q hq => (GL2.out.2 q hq).2.2) GT2.out.2.2))
    have CST := Lib.hid (fun (X : World) (k : Below V.heap.size V X) => sameScheme_any l1 l2 ts tt (fun q hq => (GL1.out.2 q hq).2.1) GT1.out.2.1 (by have := GL1.out.1; omega) none none 0 0 _ _ _ _ X (u3.keep (KeepT.of_below k) (KeepP.of_below k)) (u5.keep (KeepT.of_below k) (KeepP.of_below k)) (u4.keep (KeepT.of_below k)) (u6.keep (KeepT.of_below k)))
    generalize eqB ta tb = x1 at e1 CAB
    generalize eqB (l1, ts) (l2, tt) = x2 at e2 CST
    generalize (⟨(T.text ta).toArray⟩ : ByteArray) = A1 at e1 CA
    generalize (⟨(T.text tb).toArray⟩ : ByteArray) = A2 at e1 CB
    generalize (⟨(schText l1 ts).toArray⟩ : ByteArray) = A3 at e2 CS
    generalize (⟨(schText l2 tt).toArray⟩ : ByteArray) = A4 at e2 CT
    simp only [tyV, schV] at CA CB CAB CS CT CST
    have HV := Lib.hid (Below.refl V.heap.size V)
    clear g1 g2 g3 g4 u1 u2 u3 u4 u5 u6 hVw ys0 ys1 ys2 ys3 ys4 fys HGa HGb GL1 GL2 GT1 GT2 YA YB YS UA UB VS US VT UT RB l9 l9w
    go_region_held3 (fun V' => V'.cell? ⟨ba, 0, none⟩ = some (.int .i64 ta.kind) ∧ V'.cell? ⟨ba, 1, none⟩ = some (.string ta.name) ∧ V'.cell? ⟨ba, 2, none⟩ = some (.slice pa ta.kids.length ca) ∧ V'.cell? ⟨bb, 0, none⟩ = some (.int .i64 tb.kind) ∧ V'.cell? ⟨bb, 1, none⟩ = some (.string tb.name) ∧ V'.cell? ⟨bb, 2, none⟩ = some (.slice pb tb.kids.length cb) ∧ V'.cell? ⟨bs, 0, none⟩ = some (.slice none 0 0) ∧ V'.cell? ⟨bs, 1, none⟩ = some (.slice pc l1.length cc) ∧ V'.cell? ⟨bs, 2, none⟩ = some (.int .i64 ts.kind) ∧ V'.cell? ⟨bs, 3, none⟩ = some (.string ts.name) ∧ V'.cell? ⟨bs, 4, none⟩ = some (.slice pd ts.kids.length cd) ∧ V'.cell? ⟨bt, 0, none⟩ = some (.slice none 0 0) ∧ V'.cell? ⟨bt, 1, none⟩ = some (.slice pe l2.length ce) ∧ V'.cell? ⟨bt, 2, none⟩ = some (.int .i64 tt.kind) ∧ V'.cell? ⟨bt, 3, none⟩ = some (.string tt.name) ∧ V'.cell? ⟨bt, 4, none⟩ = some (.slice pf tt.kids.length cf)) (first | exact ⟨z0, z1, z2, z3, z4, z5, z6, z7, z8, z9, z10, z11, z12, z13, z14, z15⟩) (first | (go_at_call_of 8 (Value.agg #[Value.int .i64 ta.kind, Value.string ta.name, Value.slice pa ta.kids.length ca]); refine (CA.out _ ?kk).mono ?_; (case kk => first | exact HV.out | exact HV.out.drew); rintro e V1 ⟨rfl, hb⟩; (first | (replace z0 := (hb.cell (p := ⟨ba, 0, none⟩) la).trans z0; replace z1 := (hb.cell (p := ⟨ba, 1, none⟩) la).trans z1; replace z2 := (hb.cell (p := ⟨ba, 2, none⟩) la).trans z2; replace z3 := (hb.cell (p := ⟨bb, 0, none⟩) lb).trans z3; replace z4 := (hb.cell (p := ⟨bb, 1, none⟩) lb).trans z4; replace z5 := (hb.cell (p := ⟨bb, 2, none⟩) lb).trans z5; replace z6 := (hb.cell (p := ⟨bs, 0, none⟩) ls).trans z6; replace z7 := (hb.cell (p := ⟨bs, 1, none⟩) ls).trans z7; replace z8 := (hb.cell (p := ⟨bs, 2, none⟩) ls).trans z8; replace z9 := (hb.cell (p := ⟨bs, 3, none⟩) ls).trans z9; replace z10 := (hb.cell (p := ⟨bs, 4, none⟩) ls).trans z10; replace z11 := (hb.cell (p := ⟨bt, 0, none⟩) lt).trans z11; replace z12 := (hb.cell (p := ⟨bt, 1, none⟩) lt).trans z12; replace z13 := (hb.cell (p := ⟨bt, 2, none⟩) lt).trans z13; replace z14 := (hb.cell (p := ⟨bt, 3, none⟩) lt).trans z14; replace z15 := (hb.cell (p := ⟨bt, 4, none⟩) lt).trans z15; replace la := Nat.lt_of_lt_of_le la hb.size; replace lb := Nat.lt_of_lt_of_le lb hb.size; replace ls := Nat.lt_of_lt_of_le ls hb.size; replace lt := Nat.lt_of_lt_of_le lt hb.size; replace HV := Lib.hid (HV.out.trans (hb.mono HV.out.size))) | (replace z0 := (hb.cell (p := ⟨ba, 0, none⟩) la).trans z0; replace z1 := (hb.cell (p := ⟨ba, 1, none⟩) la).trans z1; replace z2 := (hb.cell (p := ⟨ba, 2, none⟩) la).trans z2; replace z3 := (hb.cell (p := ⟨bb, 0, none⟩) lb).trans z3; replace z4 := (hb.cell (p := ⟨bb, 1, none⟩) lb).trans z4; replace z5 := (hb.cell (p := ⟨bb, 2, none⟩) lb).trans z5; replace z6 := (hb.cell (p := ⟨bs, 0, none⟩) ls).trans z6; replace z7 := (hb.cell (p := ⟨bs, 1, none⟩) ls).trans z7; replace z8 := (hb.cell (p := ⟨bs, 2, none⟩) ls).trans z8; replace z9 := (hb.cell (p := ⟨bs, 3, none⟩) ls).trans z9; replace z10 := (hb.cell (p := ⟨bs, 4, none⟩) ls).trans z10; replace z11 := (hb.cell (p := ⟨bt, 0, none⟩) lt).trans z11; replace z12 := (hb.cell (p := ⟨bt, 1, none⟩) lt).trans z12; replace z13 := (hb.cell (p := ⟨bt, 2, none⟩) lt).trans z13; replace z14 := (hb.cell (p := ⟨bt, 3, none⟩) lt).trans z14; replace z15 := (hb.cell (p := ⟨bt, 4, none⟩) lt).trans z15; replace la := Nat.lt_of_lt_of_le la hb.size; replace lb := Nat.lt_of_lt_of_le lb hb.size; replace ls := Nat.lt_of_lt_of_le ls hb.size; replace lt := Nat.lt_of_lt_of_le lt hb.size; replace HV := Lib.hid ((HV.out.drew).trans (hb.mono HV.out.size)))); clear hb) | (go_at_call_of 8 (Value.agg #[Value.int .i64 tb.kind, Value.string tb.name, Value.slice pb tb.kids.length cb]); refine (CB.out _ ?kk).mono ?_; (case kk => first | exact HV.out | exact HV.out.drew); rintro e V2 ⟨rfl, hb⟩; (first | (replace z0 := (hb.cell (p := ⟨ba, 0, none⟩) la).trans z0; replace z1 := (hb.cell (p := ⟨ba, 1, none⟩) la).trans z1; replace z2 := (hb.cell (p := ⟨ba, 2, none⟩) la).trans z2; replace z3 := (hb.cell (p := ⟨bb, 0, none⟩) lb).trans z3; replace z4 := (hb.cell (p := ⟨bb, 1, none⟩) lb).trans z4; replace z5 := (hb.cell (p := ⟨bb, 2, none⟩) lb).trans z5; replace z6 := (hb.cell (p := ⟨bs, 0, none⟩) ls).trans z6; replace z7 := (hb.cell (p := ⟨bs, 1, none⟩) ls).trans z7; replace z8 := (hb.cell (p := ⟨bs, 2, none⟩) ls).trans z8; replace z9 := (hb.cell (p := ⟨bs, 3, none⟩) ls).trans z9; replace z10 := (hb.cell (p := ⟨bs, 4, none⟩) ls).trans z10; replace z11 := (hb.cell (p := ⟨bt, 0, none⟩) lt).trans z11; replace z12 := (hb.cell (p := ⟨bt, 1, none⟩) lt).trans z12; replace z13 := (hb.cell (p := ⟨bt, 2, none⟩) lt).trans z13; replace z14 := (hb.cell (p := ⟨bt, 3, none⟩) lt).trans z14; replace z15 := (hb.cell (p := ⟨bt, 4, none⟩) lt).trans z15; replace la := Nat.lt_of_lt_of_le la hb.size; replace lb := Nat.lt_of_lt_of_le lb hb.size; replace ls := Nat.lt_of_lt_of_le ls hb.size; replace lt := Nat.lt_of_lt_of_le lt hb.size; replace HV := Lib.hid (HV.out.trans (hb.mono HV.out.size))) | (replace z0 := (hb.cell (p := ⟨ba, 0, none⟩) la).trans z0; replace z1 := (hb.cell (p := ⟨ba, 1, none⟩) la).trans z1; replace z2 := (hb.cell (p := ⟨ba, 2, none⟩) la).trans z2; replace z3 := (hb.cell (p := ⟨bb, 0, none⟩) lb).trans z3; replace z4 := (hb.cell (p := ⟨bb, 1, none⟩) lb).trans z4; replace z5 := (hb.cell (p := ⟨bb, 2, none⟩) lb).trans z5; replace z6 := (hb.cell (p := ⟨bs, 0, none⟩) ls).trans z6; replace z7 := (hb.cell (p := ⟨bs, 1, none⟩) ls).trans z7; replace z8 := (hb.cell (p := ⟨bs, 2, none⟩) ls).trans z8; replace z9 := (hb.cell (p := ⟨bs, 3, none⟩) ls).trans z9; replace z10 := (hb.cell (p := ⟨bs, 4, none⟩) ls).trans z10; replace z11 := (hb.cell (p := ⟨bt, 0, none⟩) lt).trans z11; replace z12 := (hb.cell (p := ⟨bt, 1, none⟩) lt).trans z12; replace z13 := (hb.cell (p := ⟨bt, 2, none⟩) lt).trans z13; replace z14 := (hb.cell (p := ⟨bt, 3, none⟩) lt).trans z14; replace z15 := (hb.cell (p := ⟨bt, 4, none⟩) lt).trans z15; replace la := Nat.lt_of_lt_of_le la hb.size; replace lb := Nat.lt_of_lt_of_le lb hb.size; replace ls := Nat.lt_of_lt_of_le ls hb.size; replace lt := Nat.lt_of_lt_of_le lt hb.size; replace HV := Lib.hid ((HV.out.drew).trans (hb.mono HV.out.size)))); clear hb) | (go_at_call 9; refine (CAB.out _ ?kk).mono ?_; (case kk => first | exact HV.out | exact HV.out.drew); rintro e V3 ⟨rfl, hb⟩; (first | (replace z0 := (hb.cell (p := ⟨ba, 0, none⟩) la).trans z0; replace z1 := (hb.cell (p := ⟨ba, 1, none⟩) la).trans z1; replace z2 := (hb.cell (p := ⟨ba, 2, none⟩) la).trans z2; replace z3 := (hb.cell (p := ⟨bb, 0, none⟩) lb).trans z3; replace z4 := (hb.cell (p := ⟨bb, 1, none⟩) lb).trans z4; replace z5 := (hb.cell (p := ⟨bb, 2, none⟩) lb).trans z5; replace z6 := (hb.cell (p := ⟨bs, 0, none⟩) ls).trans z6; replace z7 := (hb.cell (p := ⟨bs, 1, none⟩) ls).trans z7; replace z8 := (hb.cell (p := ⟨bs, 2, none⟩) ls).trans z8; replace z9 := (hb.cell (p := ⟨bs, 3, none⟩) ls).trans z9; replace z10 := (hb.cell (p := ⟨bs, 4, none⟩) ls).trans z10; replace z11 := (hb.cell (p := ⟨bt, 0, none⟩) lt).trans z11; replace z12 := (hb.cell (p := ⟨bt, 1, none⟩) lt).trans z12; replace z13 := (hb.cell (p := ⟨bt, 2, none⟩) lt).trans z13; replace z14 := (hb.cell (p := ⟨bt, 3, none⟩) lt).trans z14; replace z15 := (hb.cell (p := ⟨bt, 4, none⟩) lt).trans z15; replace la := Nat.lt_of_lt_of_le la hb.size; replace lb := Nat.lt_of_lt_of_le lb hb.size; replace ls := Nat.lt_of_lt_of_le ls hb.size; replace lt := Nat.lt_of_lt_of_le lt hb.size; replace HV := Lib.hid (HV.out.trans (hb.mono HV.out.size))) | (replace z0 := (hb.cell (p := ⟨ba, 0, none⟩) la).trans z0; replace z1 := (hb.cell (p := ⟨ba, 1, none⟩) la).trans z1; replace z2 := (hb.cell (p := ⟨ba, 2, none⟩) la).trans z2; replace z3 := (hb.cell (p := ⟨bb, 0, none⟩) lb).trans z3; replace z4 := (hb.cell (p := ⟨bb, 1, none⟩) lb).trans z4; replace z5 := (hb.cell (p := ⟨bb, 2, none⟩) lb).trans z5; replace z6 := (hb.cell (p := ⟨bs, 0, none⟩) ls).trans z6; replace z7 := (hb.cell (p := ⟨bs, 1, none⟩) ls).trans z7; replace z8 := (hb.cell (p := ⟨bs, 2, none⟩) ls).trans z8; replace z9 := (hb.cell (p := ⟨bs, 3, none⟩) ls).trans z9; replace z10 := (hb.cell (p := ⟨bs, 4, none⟩) ls).trans z10; replace z11 := (hb.cell (p := ⟨bt, 0, none⟩) lt).trans z11; replace z12 := (hb.cell (p := ⟨bt, 1, none⟩) lt).trans z12; replace z13 := (hb.cell (p := ⟨bt, 2, none⟩) lt).trans z13; replace z14 := (hb.cell (p := ⟨bt, 3, none⟩) lt).trans z14; replace z15 := (hb.cell (p := ⟨bt, 4, none⟩) lt).trans z15; replace la := Nat.lt_of_lt_of_le la hb.size; replace lb := Nat.lt_of_lt_of_le lb hb.size; replace ls := Nat.lt_of_lt_of_le ls hb.size; replace lt := Nat.lt_of_lt_of_le lt hb.size; replace HV := Lib.hid ((HV.out.drew).trans (hb.mono HV.out.size)))); clear hb) | (go_at_call_of 10 (Value.agg #[Value.slice none 0 0, Value.slice pc l1.length cc, Value.int .i64 ts.kind, Value.string ts.name, Value.slice pd ts.kids.length cd]); refine (CS.out _ ?kk).mono ?_; (case kk => first | exact HV.out | exact HV.out.drew); rintro e V4 ⟨rfl, hb⟩; (first | (replace z0 := (hb.cell (p := ⟨ba, 0, none⟩) la).trans z0; replace z1 := (hb.cell (p := ⟨ba, 1, none⟩) la).trans z1; replace z2 := (hb.cell (p := ⟨ba, 2, none⟩) la).trans z2; replace z3 := (hb.cell (p := ⟨bb, 0, none⟩) lb).trans z3; replace z4 := (hb.cell (p := ⟨bb, 1, none⟩) lb).trans z4; replace z5 := (hb.cell (p := ⟨bb, 2, none⟩) lb).trans z5; replace z6 := (hb.cell (p := ⟨bs, 0, none⟩) ls).trans z6; replace z7 := (hb.cell (p := ⟨bs, 1, none⟩) ls).trans z7; replace z8 := (hb.cell (p := ⟨bs, 2, none⟩) ls).trans z8; replace z9 := (hb.cell (p := ⟨bs, 3, none⟩) ls).trans z9; replace z10 := (hb.cell (p := ⟨bs, 4, none⟩) ls).trans z10; replace z11 := (hb.cell (p := ⟨bt, 0, none⟩) lt).trans z11; replace z12 := (hb.cell (p := ⟨bt, 1, none⟩) lt).trans z12; replace z13 := (hb.cell (p := ⟨bt, 2, none⟩) lt).trans z13; replace z14 := (hb.cell (p := ⟨bt, 3, none⟩) lt).trans z14; replace z15 := (hb.cell (p := ⟨bt, 4, none⟩) lt).trans z15; replace la := Nat.lt_of_lt_of_le la hb.size; replace lb := Nat.lt_of_lt_of_le lb hb.size; replace ls := Nat.lt_of_lt_of_le ls hb.size; replace lt := Nat.lt_of_lt_of_le lt hb.size; replace HV := Lib.hid (HV.out.trans (hb.mono HV.out.size))) | (replace z0 := (hb.cell (p := ⟨ba, 0, none⟩) la).trans z0; replace z1 := (hb.cell (p := ⟨ba, 1, none⟩) la).trans z1; replace z2 := (hb.cell (p := ⟨ba, 2, none⟩) la).trans z2; replace z3 := (hb.cell (p := ⟨bb, 0, none⟩) lb).trans z3; replace z4 := (hb.cell (p := ⟨bb, 1, none⟩) lb).trans z4; replace z5 := (hb.cell (p := ⟨bb, 2, none⟩) lb).trans z5; replace z6 := (hb.cell (p := ⟨bs, 0, none⟩) ls).trans z6; replace z7 := (hb.cell (p := ⟨bs, 1, none⟩) ls).trans z7; replace z8 := (hb.cell (p := ⟨bs, 2, none⟩) ls).trans z8; replace z9 := (hb.cell (p := ⟨bs, 3, none⟩) ls).trans z9; replace z10 := (hb.cell (p := ⟨bs, 4, none⟩) ls).trans z10; replace z11 := (hb.cell (p := ⟨bt, 0, none⟩) lt).trans z11; replace z12 := (hb.cell (p := ⟨bt, 1, none⟩) lt).trans z12; replace z13 := (hb.cell (p := ⟨bt, 2, none⟩) lt).trans z13; replace z14 := (hb.cell (p := ⟨bt, 3, none⟩) lt).trans z14; replace z15 := (hb.cell (p := ⟨bt, 4, none⟩) lt).trans z15; replace la := Nat.lt_of_lt_of_le la hb.size; replace lb := Nat.lt_of_lt_of_le lb hb.size; replace ls := Nat.lt_of_lt_of_le ls hb.size; replace lt := Nat.lt_of_lt_of_le lt hb.size; replace HV := Lib.hid ((HV.out.drew).trans (hb.mono HV.out.size)))); clear hb) | (go_at_call_of 10 (Value.agg #[Value.slice none 0 0, Value.slice pe l2.length ce, Value.int .i64 tt.kind, Value.string tt.name, Value.slice pf tt.kids.length cf]); refine (CT.out _ ?kk).mono ?_; (case kk => first | exact HV.out | exact HV.out.drew); rintro e V5 ⟨rfl, hb⟩; (first | (replace z0 := (hb.cell (p := ⟨ba, 0, none⟩) la).trans z0; replace z1 := (hb.cell (p := ⟨ba, 1, none⟩) la).trans z1; replace z2 := (hb.cell (p := ⟨ba, 2, none⟩) la).trans z2; replace z3 := (hb.cell (p := ⟨bb, 0, none⟩) lb).trans z3; replace z4 := (hb.cell (p := ⟨bb, 1, none⟩) lb).trans z4; replace z5 := (hb.cell (p := ⟨bb, 2, none⟩) lb).trans z5; replace z6 := (hb.cell (p := ⟨bs, 0, none⟩) ls).trans z6; replace z7 := (hb.cell (p := ⟨bs, 1, none⟩) ls).trans z7; replace z8 := (hb.cell (p := ⟨bs, 2, none⟩) ls).trans z8; replace z9 := (hb.cell (p := ⟨bs, 3, none⟩) ls).trans z9; replace z10 := (hb.cell (p := ⟨bs, 4, none⟩) ls).trans z10; replace z11 := (hb.cell (p := ⟨bt, 0, none⟩) lt).trans z11; replace z12 := (hb.cell (p := ⟨bt, 1, none⟩) lt).trans z12; replace z13 := (hb.cell (p := ⟨bt, 2, none⟩) lt).trans z13; replace z14 := (hb.cell (p := ⟨bt, 3, none⟩) lt).trans z14; replace z15 := (hb.cell (p := ⟨bt, 4, none⟩) lt).trans z15; replace la := Nat.lt_of_lt_of_le la hb.size; replace lb := Nat.lt_of_lt_of_le lb hb.size; replace ls := Nat.lt_of_lt_of_le ls hb.size; replace lt := Nat.lt_of_lt_of_le lt hb.size; replace HV := Lib.hid (HV.out.trans (hb.mono HV.out.size))) | (replace z0 := (hb.cell (p := ⟨ba, 0, none⟩) la).trans z0; replace z1 := (hb.cell (p := ⟨ba, 1, none⟩) la).trans z1; replace z2 := (hb.cell (p := ⟨ba, 2, none⟩) la).trans z2; replace z3 := (hb.cell (p := ⟨bb, 0, none⟩) lb).trans z3; replace z4 := (hb.cell (p := ⟨bb, 1, none⟩) lb).trans z4; replace z5 := (hb.cell (p := ⟨bb, 2, none⟩) lb).trans z5; replace z6 := (hb.cell (p := ⟨bs, 0, none⟩) ls).trans z6; replace z7 := (hb.cell (p := ⟨bs, 1, none⟩) ls).trans z7; replace z8 := (hb.cell (p := ⟨bs, 2, none⟩) ls).trans z8; replace z9 := (hb.cell (p := ⟨bs, 3, none⟩) ls).trans z9; replace z10 := (hb.cell (p := ⟨bs, 4, none⟩) ls).trans z10; replace z11 := (hb.cell (p := ⟨bt, 0, none⟩) lt).trans z11; replace z12 := (hb.cell (p := ⟨bt, 1, none⟩) lt).trans z12; replace z13 := (hb.cell (p := ⟨bt, 2, none⟩) lt).trans z13; replace z14 := (hb.cell (p := ⟨bt, 3, none⟩) lt).trans z14; replace z15 := (hb.cell (p := ⟨bt, 4, none⟩) lt).trans z15; replace la := Nat.lt_of_lt_of_le la hb.size; replace lb := Nat.lt_of_lt_of_le lb hb.size; replace ls := Nat.lt_of_lt_of_le ls hb.size; replace lt := Nat.lt_of_lt_of_le lt hb.size; replace HV := Lib.hid ((HV.out.drew).trans (hb.mono HV.out.size)))); clear hb) | (go_at_call 11; refine (CST.out _ ?kk).mono ?_; (case kk => first | exact HV.out | exact HV.out.drew); rintro e V6 ⟨rfl, hb⟩; (first | (replace z0 := (hb.cell (p := ⟨ba, 0, none⟩) la).trans z0; replace z1 := (hb.cell (p := ⟨ba, 1, none⟩) la).trans z1; replace z2 := (hb.cell (p := ⟨ba, 2, none⟩) la).trans z2; replace z3 := (hb.cell (p := ⟨bb, 0, none⟩) lb).trans z3; replace z4 := (hb.cell (p := ⟨bb, 1, none⟩) lb).trans z4; replace z5 := (hb.cell (p := ⟨bb, 2, none⟩) lb).trans z5; replace z6 := (hb.cell (p := ⟨bs, 0, none⟩) ls).trans z6; replace z7 := (hb.cell (p := ⟨bs, 1, none⟩) ls).trans z7; replace z8 := (hb.cell (p := ⟨bs, 2, none⟩) ls).trans z8; replace z9 := (hb.cell (p := ⟨bs, 3, none⟩) ls).trans z9; replace z10 := (hb.cell (p := ⟨bs, 4, none⟩) ls).trans z10; replace z11 := (hb.cell (p := ⟨bt, 0, none⟩) lt).trans z11; replace z12 := (hb.cell (p := ⟨bt, 1, none⟩) lt).trans z12; replace z13 := (hb.cell (p := ⟨bt, 2, none⟩) lt).trans z13; replace z14 := (hb.cell (p := ⟨bt, 3, none⟩) lt).trans z14; replace z15 := (hb.cell (p := ⟨bt, 4, none⟩) lt).trans z15; replace la := Nat.lt_of_lt_of_le la hb.size; replace lb := Nat.lt_of_lt_of_le lb hb.size; replace ls := Nat.lt_of_lt_of_le ls hb.size; replace lt := Nat.lt_of_lt_of_le lt hb.size; replace HV := Lib.hid (HV.out.trans (hb.mono HV.out.size))) | (replace z0 := (hb.cell (p := ⟨ba, 0, none⟩) la).trans z0; replace z1 := (hb.cell (p := ⟨ba, 1, none⟩) la).trans z1; replace z2 := (hb.cell (p := ⟨ba, 2, none⟩) la).trans z2; replace z3 := (hb.cell (p := ⟨bb, 0, none⟩) lb).trans z3; replace z4 := (hb.cell (p := ⟨bb, 1, none⟩) lb).trans z4; replace z5 := (hb.cell (p := ⟨bb, 2, none⟩) lb).trans z5; replace z6 := (hb.cell (p := ⟨bs, 0, none⟩) ls).trans z6; replace z7 := (hb.cell (p := ⟨bs, 1, none⟩) ls).trans z7; replace z8 := (hb.cell (p := ⟨bs, 2, none⟩) ls).trans z8; replace z9 := (hb.cell (p := ⟨bs, 3, none⟩) ls).trans z9; replace z10 := (hb.cell (p := ⟨bs, 4, none⟩) ls).trans z10; replace z11 := (hb.cell (p := ⟨bt, 0, none⟩) lt).trans z11; replace z12 := (hb.cell (p := ⟨bt, 1, none⟩) lt).trans z12; replace z13 := (hb.cell (p := ⟨bt, 2, none⟩) lt).trans z13; replace z14 := (hb.cell (p := ⟨bt, 3, none⟩) lt).trans z14; replace z15 := (hb.cell (p := ⟨bt, 4, none⟩) lt).trans z15; replace la := Nat.lt_of_lt_of_le la hb.size; replace lb := Nat.lt_of_lt_of_le lb hb.size; replace ls := Nat.lt_of_lt_of_le ls hb.size; replace lt := Nat.lt_of_lt_of_le lt hb.size; replace HV := Lib.hid ((HV.out.drew).trans (hb.mono HV.out.size)))); clear hb))
    all_goals go_wp2
    all_goals go_ret
    all_goals exact ⟨rfl, HVw.out.trans (HV.out.mono HVw.out.size)⟩
  · go_enter Try.func3, Try.ntmps3
    by_cases hb1 : n1 ≤ 80
    · have hb1I : ¬ ((80 : Int) < (n1 : Int)) := by omega
      have hb2I : ((80 : Int) < (n2 : Int)) := by omega
      go_wp2_with (go_at_call 5; refine (first_any _).mono ?_)
      rintro e W1 rfl hw1
      have HB1 := Lib.hid hw1; clear hw1
      go_wp2
      all_goals go_ret
      all_goals exact ⟨rfl, HB1.out⟩
    · have hb1I : ((80 : Int) < (n1 : Int)) := by omega
      go_wp2_with (go_at_call 5; refine (first_any _).mono ?_)
      rintro e W1 ⟨rfl, hw1⟩
      have HB1 := Lib.hid hw1; clear hw1
      go_wp2
      all_goals go_ret
      all_goals exact ⟨rfl, HB1.out⟩
end Go.Proofs.Ytlfbmbbfcijedaa
