/- Merged: UgPutS, UgLike, UgJoinA, UgJoin, SbRGet, SbRApp. -/
import Derived.Test.YthpphjkoiipkkaaDoorUm13
import Derived.Test.YthpphjkoiipkkaaDoorUm5
import Derived.Test.YthpphjkoiipkkaaDoorUm6
import Derived.WalkSmall
import Derived.Deep.RegionHeld3
import Derived.Test.YthpphjkoiipkkaaDoorUm11
import Derived.Deep.AppendLies
/- The program's graph: put, of any type. -/
namespace Go.Proofs.YthpphjkoiipkkaaDoor
open Go.RowKit Go.Maps
attribute [local go_sem] Oper.semAt_some

theorem tsizes_upto : ∀ {l : List T} {i : Nat} (h : i < l.length), tsizes (l.take i) + tsize l[i] ≤ tsizes l
  | a :: l, 0, _ => by simp [tsizes]
  | a :: l, i + 1, h => by
    have := tsizes_upto (l := l) (i := i) (by simpa using h)
    rw [List.take_succ_cons, tsizes, tsizes, List.getElem_cons_succ]; omega
set_option maxRecDepth 100000 in
set_option maxHeartbeats 4000000 in
theorem put_step (t : T) (H : ∀ k ∈ t.kids, PutOK k) (hv : t.isV = false) (h4 : t.kind ≠ 4) : PutOK t := by
  intro B G rt E c g mb pv sl w a ca h gi hE hB hN hE2 hT
  have hkz : (t.kind == 1) = false := by cases t <;> simp_all [T.kind, T.isV]
  have hsz := tsize_eq t
  have hln := len_sizes' t.kids
  obtain ⟨W1, hW1⟩ : ∃ W1, w.alloc (.cells #[.int .i64 t.kind, .string t.name, .slice a t.kids.length ca] 29) = W1 := ⟨_, rfl⟩
  obtain ⟨W2, hW2⟩ : ∃ W2, W1.alloc (.cells (madeCells #[.int .i64 0] t.kids.length) 3) = W2 := ⟨_, rfl⟩
  have hs1 : W1.heap.size = w.heap.size + 1 := by rw [← hW1]; simp
  have hb1 : Below w.heap.size w W1 := by rw [← hW1]; exact (Below.refl _ w).alloc (Nat.le_refl _) _
  have hb2 : Below W1.heap.size W1 W2 := by rw [← hW2]; exact (Below.refl _ W1).alloc (Nat.le_refl _) _
  have hbx : W1.heap[w.heap.size]? = some (.cells #[.int .i64 t.kind, .string t.name, .slice a t.kids.length ca] 29 (0, 0)) := by rw [← hW1]; exact alloc_new w _
  have hbx2 := (hb2.block _ (by omega)).trans hbx
  have hZ : OwnI (w.heap.size + 1) (.slice (some ⟨w.heap.size + 1, 0, none⟩) t.kids.length t.kids.length) ((List.range t.kids.length).map fun _ => 0) W2 := by rw [← hs1, ← hW2]; exact own_zeros W1 _ (by omega)
  have hb12 := hb1.trans (hb2.mono hb1.size)
  have HI := Lib.hid (⟨G, rt, E, pv, sl, fun _ => 0, h.keep hb12, ⟨ExtG.refl G rt, gi, hE, by omega, Nat.le_refl _, by simp [tsizes]⟩, ⟨NewSl.refl _ _ _, (fun k hk hag e => by have := h.lowSl k hk hag _ e; omega), fun i h1 h2 => absurd h2 (Nat.not_lt.2 h1)⟩, ⟨hZ, fun k _ h => absurd h (Nat.not_lt_zero _)⟩, KeepP.of_below hb12, hb12.mono hB, hbx2⟩ : PutI B G rt E c g mb sl t (.slice a t.kids.length ca) w (w.heap.size + 1) 0 W2)
  have hmk := make_ints t.kids.length t.kids.length (Nat.le_refl _) (by omega) W1
  rw [hW2, hs1] at hmk
  obtain ⟨z0, z1, z2⟩ := three_cells hbx
  obtain ⟨q0, q1, q2⟩ := three_cells hbx2
  have HT := Lib.hid (fun (i : Nat) (hi : i < t.kids.length) => hT.part i hi)
  have hlen6 : t.kids.length ≤ 1000000 := by omega
  have HH := Lib.hid H
  clear h gi hE hT hb1 hb2 hbx hbx2 hZ hb12 hs1 H hln
  subst hW1
  simp only [tyV]
  go_enter Tryd.func35, Tryd.ntmps35
  go_wp2
  go_loopw [22] (fun vi wr => ∃ i : Nat, i ≤ t.kids.length ∧ vi = .int .i64 (i : Nat) ∧ Hid (PutI B G rt E c g mb sl t (.slice a t.kids.length ca) w (w.heap.size + 1) i wr)) (fun vi _ => t.kids.length - (intOf vi).toNat)
  case atStart => exact ⟨0, Nat.zero_le _, rfl, HI⟩
  case round =>
    obtain ⟨i, hi, rfl, hX⟩ := hrel
    by_cases hlt : i < t.kids.length
    · have hiz : (i : Int) < (t.kids.length : Int) := by omega
      obtain ⟨G1, r1, E1, pv1, s1, Wf, p1, ⟨e1, gi1, hE1, n1, l1, b1⟩, p3, p4, p5, p6, p7⟩ := hX.out
      obtain ⟨gk, pa, pc, rfl, hcap, hpart⟩ := HT.out i hlt
      obtain ⟨⟨hgl, x0, x1, x2⟩, hk⟩ := hpart wr p5.tys
      obtain ⟨q0, q1, q2⟩ := three_cells p7
      have hble : tsize t.kids[i] ≤ tsizes t.kids := size_mem' (List.getElem_mem hlt)
      have hts : tsizes (t.kids.take i) + tsize t.kids[i] ≤ tsizes t.kids := tsizes_upto hlt
      obtain ⟨x3, hx3⟩ := p4.1.some
      have c3 := hx3 i hlt
      have f3 := p4.1.freeAt i
      have hbb := (Below.refl _ wr).alloc (Nat.le_refl _) (.cells #[.int .i64 t.kids[i].kind, .string t.kids[i].name, .slice pa t.kids[i].kids.length pc] 29)
      have hBr : B ≤ wr.heap.size := Nat.le_trans hB p6.size
      have HC := Lib.hid (HH.out t.kids[i] (List.getElem_mem hlt) B G1 r1 E1 c g mb pv1 s1 _ pa pc (p1.keep hbb) gi1 hE1 (Nat.le_trans hBr hbb.size) (by omega) (by omega) (hk.keep (KeepT.of_below hbb)))
      have HN := Lib.hid (fun (r : Nat) (G2 : Gr) (r2 : Nat → Nat) (E2 : Nat) (pv2 : Value) (s2 : Nat → Value) (w5 : World) hr y1 y2 y3 y4 => PutI.next (c := c) (g := g) (mb := mb) (r := r) (G2 := G2) (r2 := r2) (E2 := E2) (pv2 := pv2) (s2 := s2) (w5 := w5) (Nat.lt_succ_self w.heap.size) hB hlt ⟨e1, n1, l1, b1⟩ p3 p4 p5 p6 p7 hbb hr y1 y2 y3 y4)
      have HP4 := Lib.hid p4.1
      have hab : w.heap.size + 1 < wr.heap.size := by obtain ⟨cs, hcs⟩ := p4.1.blk; exact (Array.getElem?_eq_some_iff.1 hcs).1
      have HBB := Lib.hid hbb
      clear p1 e1 gi1 hE1 n1 l1 b1 p3 p4 p5 p6 p7 hX hpart hk hbb hx3
      generalize t.kids[i] = u at *
      simp only [tyV] at HC
      go_wp2_with (go_at_call 35; refine HC.out.mono ?_)
      rintro e w5 ⟨G2, r2, E2, pv2, s2, r, ⟨rfl, h1, h2⟩, h3, h4, h5, h6⟩
      have hO5 := (HP4.out.below HBB.out)
      have hO5' : OwnI (w.heap.size + 1) (.slice (some ⟨w.heap.size + 1, 0, none⟩) t.kids.length t.kids.length) ((List.range t.kids.length).map Wf) w5 := row_kept hO5 fun k cs fz hk => h5 k cs _ fz hk (by decide) (by decide)
      obtain ⟨x5, hx5⟩ := hO5'.some
      have c5 := hx5 i hlt
      have f5 := hO5'.freeAt i
      have l5 : w.heap.size + 1 < w5.heap.size := by obtain ⟨cs, hcs⟩ := hO5'.blk; exact (Array.getElem?_eq_some_iff.1 hcs).1
      have HX5 := Lib.hid (HN.out r G2 r2 E2 pv2 s2 w5 ⟨h1, h2⟩ h3 h4 h5 h6)
      clear h1 h2 h3 h4 h5 h6 hO5 hO5' hx5 HN HC
      go_wp2
      go_roundw
      case rel => exact ⟨i + 1, by omega, by go_num, HX5⟩
      case measure => simp [intOf]; omega
    · have hiz : ¬ ((i : Int) < (t.kids.length : Int)) := by omega
      obtain rfl : i = t.kids.length := by omega
      obtain ⟨G1, r1, E1, pv1, s1, Wf, p1, ⟨e1, gi1, hE1, n1, l1, b1⟩, p3, p4, p5, p6, p7⟩ := hX.out
      rw [List.take_length] at n1 b1
      obtain ⟨l, hl⟩ : ∃ l, (List.range t.kids.length).map Wf = l := ⟨_, rfl⟩
      have hll : l.length = t.kids.length := by rw [← hl]; simp
      have hlg : ∀ k (h1 : k < l.length) (h2 : k < t.kids.length), l[k] < G1.N ∧ G1.tr l[k] = t.kids[k] := fun k h1 h2 => by
        have e : l[k] = Wf k := by simp [← hl]
        rw [e]; exact p4.2 k h2 h2
      have hnv : t.isV = true → ∀ i, i < G1.N → G1.tr i ≠ t := fun h => by rw [hv] at h; cases h
      have hok : (G1.snoc t l).OK := gi1.ok.snoc (List.ext_getElem (by simp [hll]) fun k h1 h2 => by
          rw [List.getElem_map]; exact (hlg k (by simpa using h2) h1).2.symm) (fun x hx => by
          obtain ⟨k, hk, rfl⟩ := List.getElem_of_mem hx
          exact (hlg k hk (by omega)).1) hnv h4
      obtain ⟨q0, q1, q2⟩ := three_cells p7
      obtain ⟨_, _, y2, _, yf⟩ := p1.cells
      have hgl := p1.lt
      have f2 := yf 2
      obtain ⟨m1, m2⟩ := p1.edge (E' := E1 + t.kids.length)
      have hargs : PlcAt wr (.slice (some ⟨w.heap.size + 1, 0, none⟩) t.kids.length t.kids.length) l := by rw [← hl]; exact p4.1.plcAt
      obtain ⟨hbg, htop, ⟨nx, hh, hW, hr, hs⟩, ⟨f, hmb, hM, hP⟩⟩ := m1
      have hbE : Below B wr (wr.setCell ⟨g, 2, none⟩ (.int .i64 ((E1 + t.kids.length : Nat) : Int))) := (Below.refl _ wr).setCell (p := ⟨g, 2, none⟩) hbg _
      have hcast : ((E1 + t.kids.length : Nat) : Int) = (E1 : Int) + (t.kids.length : Int) := by omega
      have HA := Lib.hid (add_any (v := .slice (some ⟨w.heap.size + 1, 0, none⟩) t.kids.length t.kids.length) (t := t) (x := 0) htop hbg (Nat.le_trans hB (Nat.le_trans p6.size hbE.size)) hr (by omega) rfl)
      have HQ : Hid (∀ w6, Added B G1 t (.slice (some ⟨w.heap.size + 1, 0, none⟩) t.kids.length t.kids.length) (E1 + t.kids.length) c g mb s1 nx (wr.setCell ⟨g, 2, none⟩ (.int .i64 ((E1 + t.kids.length : Nat) : Int))) w6 → PutR B G rt E c g mb sl t w (.returned (.int .i64 (G1.N : Nat))) w6) := Lib.hid fun w6 h6 => by
        have h6' := h6
        obtain ⟨_, k6, b6⟩ := h6
        obtain ⟨pv6, hgm⟩ := GM.added (t := t) (l := l) hbg hW hs (m2.ints hargs) h6' (w2 := w6) (fun _ _ _ _ h => h) ⟨f, hmb, (k6.map hM).mono (Nat.le_succ _), plv_con hP hv⟩
        refine ⟨G1.snoc t l, upto r1 G1.N, E1 + t.kids.length, pv6, _, G1.N, ⟨rfl, Nat.lt_succ_self _, (snoc_new G1 _ _).1⟩, ⟨e1.trans (ExtG.snoc gi1 t l hnv), gi1.snoc hok, fun i hi => ?_, ?_, by omega, by omega, p3.1.trans (NewSl.snoc (M := w.heap.size) fun b hb => ?_) (Nat.le_refl _) e1.n, fun i hi1 hi2 x hx => ?_⟩, hgm, (p5.trans m2.p).trans k6.p, (p6.trans hbE).trans b6⟩
        · rcases snoc_cases hi with h1 | rfl
          · rw [(snoc_old G1 t l h1).2]; have := hE1 i h1; omega
          · rw [(snoc_new G1 t l).2]; omega
        · show G1.N + 1 ≤ _; omega
        · have : w.heap.size + 1 = b := by simpa [Value.ownBlock] using hb
          omega
        · rcases snoc_cases hi2 with h1 | rfl
          · rw [(snoc_old G1 t l h1).1] at hx
            exact (vs_kids hv).2 (p3.2.2 i hi1 h1 x hx)
          · rw [(snoc_new G1 t l).1] at hx; exact hx
      have u0 : ∀ y : Value, (wr.setCell ⟨g, 2, none⟩ y).cell? ⟨w.heap.size, 0, none⟩ = some (.int .i64 t.kind) := fun y => (World.cell?_of_block (a := ⟨w.heap.size, 0, none⟩) (Below.heap_setCell wr ⟨g, 2, none⟩ y w.heap.size (by rintro e; have h7 := p7; rw [show w.heap.size = g from e, p1.top] at h7; cases h7))).trans q0
      have u1 : ∀ y : Value, (wr.setCell ⟨g, 2, none⟩ y).cell? ⟨w.heap.size, 1, none⟩ = some (.string t.name) := fun y => (World.cell?_of_block (a := ⟨w.heap.size, 1, none⟩) (Below.heap_setCell wr ⟨g, 2, none⟩ y w.heap.size (by rintro e; have h7 := p7; rw [show w.heap.size = g from e, p1.top] at h7; cases h7))).trans q1
      have v0 := u0 (.int .i64 ((E1 + t.kids.length : Nat) : Int))
      have v1 := u1 (.int .i64 ((E1 + t.kids.length : Nat) : Int))
      have hzero : ((0 : Nat) : Int) = 0 := rfl
      have hb9 : E1 ≤ 1000000 := by omega
      rw [hcast] at HA HQ v0 v1
      rw [hzero] at HA
      clear p1 e1 gi1 hE1 n1 l1 b1 p3 p4 p5 p6 p7 hX hl hlg hok hnv m2 hargs htop hW hr hs hM hP hbE yf u0 u1 hcast
      go_wp2_with (go_at_call 52; refine HA.out.mono ?_)
      rintro e w6 rfl h6
      have HR := Lib.hid (HQ.out w6 h6)
      clear h6 HA HQ
      go_wp2
      go_ret
      exact HR.out
theorem put_any (t : T) (h : Plain3 t) (hn : ∀ x ∈ vs t, x.size ≤ 1000) : PutOK t := by
  revert h hn
  refine T.kidsInd (P := fun t => Plain3 t → (∀ x ∈ vs t, x.size ≤ 1000) → PutOK t) (fun t ih h hn => ?_) t
  cases hv : t.isV with
  | true =>
    rw [isV_var hv]
    exact put_var _ (hn _ (by rw [isV_var hv]; simp [vs, T.name]))
  | false => exact put_step t (fun k hk => ih k hk (h.kid hk) fun x hx => hn x ((vs_kids hv).2 ⟨k, hk, hx⟩)) hv h.four
end Go.Proofs.YthpphjkoiipkkaaDoor
/- The program's graph: alike. -/
namespace Go.Proofs.YthpphjkoiipkkaaDoor
open Go.RowKit Go.Maps
attribute [local go_sem] Oper.semAt_some

theorem two_drew (w : World) (o1 o2 : Obj) : Below w.heap.size w ((w.alloc o1).alloc o2).drew := (((Below.refl _ w).alloc (Nat.le_refl _) o1).alloc (by simp) o2).drew
set_option maxHeartbeats 4000000 in
theorem alike_any {B : Nat} {G : Gr} {rt : Nat → Nat} {E c g mb p cap a b : Nat} {sl : Nat → Value} {w : World} (h : GM B G rt E c g mb (.slice (some ⟨p, 0, none⟩) G.N cap) sl w) (hG : G.OK) (ha : a < G.N) (hb : b < G.N) (va : (G.tr a).isV = false) (vb : (G.tr b).isV = false) :
    Calls Tryd.prog 48 #[gp g, .int .i64 (a : Int), .int .i64 (b : Int)] w fun e w' => e = .returned (.bool (likeB G a b)) ∧ Below w.heap.size w w' := by
  obtain ⟨hlt, hcap, va1, ca1, x0, x1, x2, _⟩ := h.part ha
  obtain ⟨_, _, vb1, cb1, z0, z1, z2, _⟩ := h.part hb
  obtain ⟨nxa, x3⟩ : ∃ v, w.cell? ⟨p, a * 4 + 3, none⟩ = some (.int .i64 v) := by
    obtain ⟨_, _, ⟨nx, hh, _, r, _⟩, _⟩ := h
    exact ⟨_, cell3 r ha⟩
  obtain ⟨nxb, z3⟩ : ∃ v, w.cell? ⟨p, b * 4 + 3, none⟩ = some (.int .i64 v) := by
    obtain ⟨_, _, ⟨nx, hh, _, r, _⟩, _⟩ := h
    exact ⟨_, cell3 r hb⟩
  have y0 := h.top0
  have hg := h.lt
  have haz : (a : Int) < (G.N : Int) := by omega
  have hbz : (b : Int) < (G.N : Int) := by omega
  have k3 : ∀ t : T, t.isV = false → t.kind ≠ 4 → t.kind = 2 ∨ t.kind = 3 ∧ t.name = ⟨#[]⟩ := by
    intro t h1 h2
    cases t with
    | var => cases h1
    | con => exact .inl rfl
    | fn => exact .inr ⟨rfl, rfl⟩
    | all => exact absurd rfl h2
  have ka := k3 _ va (hG.three a ha)
  have kb := k3 _ vb (hG.three b hb)
  generalize hres : likeB G a b = res
  unfold likeB at hres
  generalize G.N = N at *
  generalize (G.ag a).length = la at *
  generalize (G.ag b).length = lb at *
  generalize (G.tr a).kind = kda at *
  generalize (G.tr b).kind = kdb at *
  generalize (G.tr a).name = na at *
  generalize (G.tr b).name = nb at *
  clear h
  by_cases e1 : kda = kdb
  · subst e1
    by_cases e2 : la = lb
    · subst e2
      rcases ka with rfl | ⟨rfl, rfl⟩
      · have hres : eqB na nb = res := by
          rw [← hres]
          by_cases e : na = nb
          · subst e; rw [eqB_true rfl]; simp
          · rw [eqB_false e]; simp [e]
        clear kb
        subst hres
        go_enter Tryd.func48, Tryd.ntmps48
        go_wp2
        go_region
        all_goals go_wp2
        all_goals go_ret
        all_goals exact ⟨by rw [← bytes_beq]; rfl, two_drew w _ _⟩
      · rcases kb with h | ⟨_, rfl⟩
        · cases h
        have hres : true = res := by rw [← hres]; simp
        subst hres
        go_enter Tryd.func48, Tryd.ntmps48
        go_wp2
        go_region
        all_goals go_wp2
        all_goals go_ret
        all_goals exact ⟨rfl, two_drew w _ _⟩
    · have hres : false = res := by rw [← hres]; simp [e2]
      subst hres
      have hz : (((la : Nat) : Int) != (lb : Int)) = true := by simp; omega
      go_enter Tryd.func48, Tryd.ntmps48
      go_wp2
      go_region
      all_goals go_wp2
      all_goals go_ret
      all_goals exact ⟨rfl, two_drew w _ _⟩
  · have hres : false = res := by rw [← hres]; simp [e1]
    subst hres
    have hz : (kda != kdb) = true := by simpa using e1
    go_enter Tryd.func48, Tryd.ntmps48
    go_wp2
    go_region
    all_goals go_wp2
    all_goals go_ret
    all_goals exact ⟨rfl, two_drew w _ _⟩
end Go.Proofs.YthpphjkoiipkkaaDoor
/- The program's graph: join, round by round. -/
namespace Go.Proofs.YthpphjkoiipkkaaDoor
open Go.RowKit Go.Maps
attribute [local go_sem] Oper.semAt_some

theorem least_nat {P : Nat → Prop} (h : ∃ n, P n) : ∃ m, P m ∧ ∀ k, P k → m ≤ k := by
  classical
  obtain ⟨n, hn⟩ := h
  induction n using Nat.strongRecOn with
  | ind n ih =>
    by_cases hk : ∃ k, k < n ∧ P k
    · obtain ⟨k, h1, h2⟩ := hk
      exact ih k h1 h2
    · exact ⟨n, hn, fun k hP => Nat.le_of_not_lt fun h => hk ⟨k, h, hP⟩⟩
open Classical in
/-- The least number of rounds. -/
noncomputable def muJ {α β : Type} (R : α → β → Nat → Prop) (a : α) (b : β) : Nat := if h : ∃ m, R a b m ∧ ∀ k, R a b k → m ≤ k then Classical.choose h else 0
theorem mu_at {α β : Type} {R : α → β → Nat → Prop} {a : α} {b : β} (h : ∃ n, R a b n) : R a b (muJ R a b) := by
  have h' := least_nat h
  unfold muJ; rw [dif_pos h']; exact (Classical.choose_spec h').1
theorem mu_le {α β : Type} {R : α → β → Nat → Prop} {a : α} {b : β} {n : Nat} (h : R a b n) : muJ R a b ≤ n := by
  have h' := least_nat ⟨n, h⟩
  unfold muJ; rw [dif_pos h']; exact (Classical.choose_spec h').2 n h

/-- Where join stands, so many rounds before its end. -/
structure JT (B : Nat) (G : Gr) (E g mb p cap : Nat) (sl : Nat → Value) (w0 : World) (fl : Bool) (rf rt : Nat → Nat) (ws : List Stp) (c : Nat) (v : Value) (wr : World) (n : Nat) : Prop where
  gm : GM B G rt E c g mb (.slice (some ⟨p, 0, none⟩) G.N cap) sl wr
  gi : GI G rt
  sk : SK G E rt ws
  stk : StkAt w0.heap.size v ws wr
  len : ws.length ≤ capM G E (G.N + E)
  ends : EndsIn G E (G.N + E) n rt ws c fl rf
  few : c ≤ G.N + E
  fr : Fr2 p g w0 wr
def JS (B : Nat) (G : Gr) (E g mb p cap : Nat) (sl : Nat → Value) (w0 : World) (fl : Bool) (rf : Nat → Nat) (v : Value) (wr : World) (n : Nat) : Prop := ∃ rt ws c, JT B G E g mb p cap sl w0 fl rf rt ws c v wr n
/-- What join tells. -/
def JoinR (B : Nat) (G : Gr) (E g mb p cap : Nat) (sl : Nat → Value) (w0 : World) (fl : Bool) (rf : Nat → Nat) (e : Ending) (w' : World) : Prop :=
  (e = .returned (.bool fl) ∧ ∃ c, c ≤ G.N + E ∧ GM B G rf E c g mb (.slice (some ⟨p, 0, none⟩) G.N cap) sl w') ∧ Fr2 p g w0 w'
section
variable {B : Nat} {G : Gr} {E g mb p cap : Nat} {sl : Nat → Value} {w0 : World} {fl : Bool} {rf rt : Nat → Nat} {c : Nat}
theorem StkAt.fr2 {Bs : Nat} {v : Value} {ws : List Stp} {w w' : World} (h : StkAt Bs v ws w) (hM : GM B G rt E c g mb (.slice (some ⟨p, 0, none⟩) G.N cap) sl w) (hk : Fr2 p g w w') : StkAt Bs v ws w' := by
  obtain ⟨cur, hc⟩ := hM.blk
  exact row_kept h fun k _ _ hh => (hk.2 k (Array.getElem?_eq_some_iff.1 hh).1 (by rintro rfl; rw [hc] at hh; cases hh) (by rintro rfl; rw [hM.top] at hh; cases hh)).trans hh
/-- Nothing is to be done still. -/
theorem JT.nil {v : Value} {wr : World} {n : Nat} (h : JT B G E g mb p cap sl w0 fl rf rt [] c v wr n) : fl = true ∧ rf = rt := by
  cases h.ends; exact ⟨rfl, rfl⟩
/-- It can't go on. -/
theorem JT.stop {v : Value} {wr : World} {n : Nat} {s : Stp} {ws : List Stp} (h : JT B G E g mb p cap sl w0 fl rf rt (s :: ws) c v wr n) (e : stepG G rt s ws = none) : fl = false ∧ rf = rt := by
  cases h.ends with
  | stop => exact ⟨rfl, rfl⟩
  | round _ rt' _ _ _ _ e2 => rw [e] at e2; cases e2
  | go _ _ rt' _ _ _ _ _ _ e2 => rw [e] at e2; cases e2
theorem JT.room {v : Value} {wr : World} {n : Nat} {s : Stp} {ws ws' : List Stp} {rt' : Nat → Nat} (h : JT B G E g mb p cap sl w0 fl rf rt (s :: ws) c v wr n) (e : stepG G rt s ws = some (rt', ws')) : ws'.length ≤ capM G E (G.N + E) := by
  cases h.ends with
  | stop _ _ _ _ e2 => rw [e] at e2; cases e2
  | round _ rt'' _ _ ws'' _ e2 h => rw [e] at e2; cases e2; exact h
  | go _ _ rt'' _ _ _ ws'' _ _ e2 h => rw [e] at e2; cases e2; exact h
/-- Behind a step, and behind goesRound. -/
theorem JT.tail {v v' : Value} {wr w5 w6 : World} {n : Nat} {s : Stp} {ws ws' : List Stp} {rt' : Nat → Nat} {r : Ending} (hE : ∀ i, i < G.N → (G.ag i).length ≤ E) (h : JT B G E g mb p cap sl w0 fl rf rt (s :: ws) c v wr n) (e : stepG G rt s ws = some (rt', ws'))
    (hM : GM B G rt' E c g mb (.slice (some ⟨p, 0, none⟩) G.N cap) sl w5) (hS : StkAt w0.heap.size v' ws' w5) (hF : Fr2 p g w0 w5) (hg : GoesR B G rt' E c g mb p cap sl w5 r w6) :
    (r = .returned (.bool true) ∧ fl = false ∧ JoinR B G E g mb p cap sl w0 fl rf (.returned (.bool false)) w6) ∨ (r = .returned (.bool false) ∧ ∃ m, m < n ∧ JS B G E g mb p cap sl w0 fl rf v' w6 m) := by
  classical
  obtain ⟨⟨g1, g2⟩, g3⟩ := hg
  obtain ⟨⟨i1, i2⟩, _, _⟩ := step_inv hE h.gi h.sk e
  have hcap := h.room e
  cases h.ends with
  | stop _ _ _ _ e2 => rw [e] at e2; cases e2
  | round _ rt'' _ _ ws'' _ e2 _ hc hA =>
    rw [e] at e2; cases e2
    left
    rw [if_neg (by omega)] at g1 g2
    have := decide_eq_false hA
    rw [this] at g1
    exact ⟨g1, rfl, ⟨rfl, 0, Nat.zero_le _, g2⟩, hF.trans g3⟩
  | go m _ rt'' _ _ _ ws'' _ _ e2 _ hk hm =>
    rw [e] at e2; cases e2
    right
    refine ⟨?_, m, Nat.lt_succ_self _, _, _, _, ⟨g2, i1, i2, hS.fr2 hM g3, hcap, hm, by split <;> omega, hF.trans g3⟩⟩
    rw [g1]
    by_cases hc : c + 1 ≤ G.N + E
    · rw [if_pos hc]
    · rw [if_neg hc]
      have hA := hk.resolve_left hc
      rw [decide_eq_true hA]; rfl
theorem rowS_get (l : List Stp) (s : Stp) (k : Nat) (hk : k < 3) : (rowS (l ++ [s]))[l.length * 3 + k]? = (encS s)[k]? := by
  rw [rowS_snoc, List.getElem?_append_right (by rw [rowS_len]; omega), rowS_len]
  congr 1; omega
/-- The next step, and the others. -/
theorem StkAt.top {Bs : Nat} {v : Value} {s : Stp} {ws : List Stp} {w : World} (h : StkAt Bs v (s :: ws) w) : ∃ q cp, v = .slice (some ⟨q, 0, none⟩) (ws.length + 1) cp ∧ q < w.heap.size ∧ Bs ≤ q ∧ ws.length + 1 ≤ cp ∧ (w.cell? ⟨q, ws.length * 3, none⟩ = some (.int .i64 (s.a : Int)) ∧ w.cell? ⟨q, ws.length * 3 + 1, none⟩ = some (.int .i64 (s.b : Int)) ∧ w.cell? ⟨q, ws.length * 3 + 2, none⟩ = some (.bool s.j)) ∧ StkAt Bs (.slice (some ⟨q, 0, none⟩) ws.length cp) ws w := by
  unfold StkAt at h
  rw [List.length_cons, List.reverse_cons] at h
  have hl := rowS_len ws.reverse
  rw [List.length_reverse] at hl
  rcases h.2 with ⟨_, e⟩ | ⟨q, cp, cur, rfl, hb, hq, hc, _⟩
  · omega
  · have hg : ∀ k, k < 3 → w.cell? ⟨q, ws.length * 3 + k, none⟩ = (encS s)[k]? := fun k hk => by
      rw [h.cellAt (ws.length * 3 + k) (by omega), ← rowS_get ws.reverse s k hk, List.length_reverse]
    refine ⟨q, cp, rfl, (Array.getElem?_eq_some_iff.1 hq).1, hb, hc, ⟨hg 0 (by omega), hg 1 (by omega), hg 2 (by omega)⟩, ?_⟩
    rw [rowS_snoc] at h
    exact ownsRow_pop hl h
end
end Go.Proofs.YthpphjkoiipkkaaDoor
/- The program's graph: join. -/
namespace Go.Proofs.YthpphjkoiipkkaaDoor
open Go.RowKit Go.Maps
attribute [local go_sem] Oper.semAt_some

theorem Fr2.of_below {p g : Nat} {w v : World} (h : Below w.heap.size w v) : Fr2 p g w v := ⟨h.mono (Nat.zero_le _), fun k hk _ _ => h.block k hk⟩
theorem Fr.of_drew {p : Nat} {w v : World} (h : Fr p w.drew v) : Fr p w v := ⟨(Below.refl 0 w).drew.trans h.1, h.2⟩
set_option maxRecDepth 100000 in
set_option maxHeartbeats 8000000 in
theorem join_any {B : Nat} {G : Gr} {rt : Nat → Nat} {E c g mb p cap i j n : Nat} {sl : Nat → Value} {fl : Bool} {rf : Nat → Nat} {w : World} (h : GM B G rt E c g mb (.slice (some ⟨p, 0, none⟩) G.N cap) sl w) (gi : GI G rt) (hE : ∀ i, i < G.N → (G.ag i).length ≤ E) (hN : G.N ≤ 1000000) (hE2 : E ≤ 1000000) (hi : i < G.N) (hj : j < G.N) (hc : c ≤ G.N + E) (he : EndsIn G E (G.N + E) n rt [⟨i, j, false⟩] c fl rf) :
    Calls Tryd.prog 34 #[gp g, .int .i64 (i : Int), .int .i64 (j : Int)] w fun e w' => JoinR B G E g mb p cap sl w fl rf e w' := by
  have hcap : capM G E (G.N + E) ≤ 4000000000000 := by
    unfold capM
    have h1 : (G.N + (G.N + E) + 2) * (E + 1) ≤ 3000002 * 1000001 := Nat.mul_le_mul (by omega) (by omega)
    omega
  have hbl := (Below.refl _ w).alloc (Nat.le_refl _) (.cells #[.int .i64 (i : Int), .int .i64 (j : Int), .bool false] 98)
  have hS0 : StkAt w.heap.size (.slice (some ⟨w.heap.size, 0, none⟩) 1 1) [⟨i, j, false⟩] (w.alloc (.cells #[.int .i64 (i : Int), .int .i64 (j : Int), .bool false] 98)) :=
    World.ownsRow_lit (base := w.heap.size) (size := 3) (e := 98) w #[.int .i64 (i : Int), .int .i64 (j : Int), .bool false] 1 (Nat.le_refl _) (by unfold maxLen; omega) rfl
  have HS0 := Lib.hid (⟨n, rt, [⟨i, j, false⟩], c, ⟨h.keep hbl, gi, ⟨⟨⟨hi, hj, fun h => (by cases h)⟩, trivial⟩, ⟨fun t ht => (by cases ht), trivial⟩, ⟨by simp, trivial⟩⟩, hS0, by unfold capM; simp, he, hc, (Fr2.refl p g w).below_fr hbl⟩⟩ : ∃ n, JS B G E g mb p cap sl w fl rf (.slice (some ⟨w.heap.size, 0, none⟩) 1 1) (w.alloc (.cells #[.int .i64 (i : Int), .int .i64 (j : Int), .bool false] 98)) n)
  clear h gi hi hj hc he hS0 hbl
  go_enter Tryd.func34, Tryd.ntmps34
  go_wp2
  go_loopw [7] (fun vw wr => ∃ (a : Option Addr) (n cp : Nat), vw = .slice a n cp ∧ Hid (∃ k, JS B G E g mb p cap sl w fl rf (.slice a n cp) wr k)) (fun vw wr => muJ (JS B G E g mb p cap sl w fl rf) vw wr)
  case atStart => exact ⟨_, _, _, rfl, HS0⟩
  case round =>
    obtain ⟨a, n, cp, rfl, hX⟩ := hrel
    have hJ := mu_at hX.out
    generalize hmu : muJ (JS B G E g mb p cap sl w fl rf) (.slice a n cp) wr = k at hJ
    have HMu := Lib.hid hmu
    obtain ⟨rt, ws, c, hT⟩ := hJ
    cases ws with
    | nil =>
      obtain ⟨rfl, rfl⟩ := hT.nil
      obtain ⟨_, _, e⟩ := row_slice hT.stk
      cases e
      have HT := Lib.hid hT
      clear hT hmu hX HMu
      go_wp2
      go_ret
      exact ⟨⟨rfl, c, HT.out.few, HT.out.gm⟩, HT.out.fr⟩
    | cons s ws =>
      obtain ⟨q, cp, e, lq, hbq, hcp, ⟨x0, x1, x2⟩, hpop⟩ := hT.stk.top
      cases e
      obtain ⟨sa, sb, sj⟩ := s
      have hwl : ws.length < 4000000000000 := by have := hT.len; simp at this; omega
      have hwz : (ws.length : Int) < (ws.length : Int) + 1 := by omega
      have HT := Lib.hid hT; have HP := Lib.hid hpop
      clear hmu hX hT hpop
      go_wp2
      have hbx := alloc_new wr (.cells #[.int .i64 (sa : Int), .int .i64 (sb : Int), .bool sj] 98)
      have hbb := (Below.refl _ wr).alloc (Nat.le_refl _) (.cells #[.int .i64 (sa : Int), .int .i64 (sb : Int), .bool sj] 98)
      obtain ⟨W1, hW1⟩ : ∃ W1, wr.alloc (.cells #[.int .i64 (sa : Int), .int .i64 (sb : Int), .bool sj] 98) = W1 := ⟨_, rfl⟩
      rw [hW1] at hbx hbb ⊢
      obtain ⟨z0, z1, z2⟩ := three_cells hbx
      have HM1 := Lib.hid (HT.out.gm.keep hbb)
      have hps := (HT.out.gm.blk).choose_spec
      have hpl : p < wr.heap.size := (Array.getElem?_eq_some_iff.1 hps).1
      have HBX := Lib.hid hbx; have HBB := Lib.hid hbb
      have hla := HT.out.sk.1.1.1
      have hlb := HT.out.sk.1.1.2.1
      have HC := Lib.hid (fun (x : Nat) (hx : x < G.N) (W : World) (hM : GM B G rt E c g mb (.slice (some ⟨p, 0, none⟩) G.N cap) sl W) => root_any hM hx)
      clear hW1 hbx hbb hps x0 x1 x2
      have hla' : sa < G.N := hla
      have hlb' : sb < G.N := hlb
      clear hla hlb
      have HC1 := Lib.hid (root_any HM1.out.drew hla')
      have hbxl := (Array.getElem?_eq_some_iff.1 HBX.out).1
      have hbxp : wr.heap.size ≠ p := by omega
      go_cut [10, 11] from 29 to 36 (fun va vb W => (va = .int .i64 (rt sa : Nat) ∧ vb = .int .i64 (rt sb : Nat)) ∧ Hid (GM B G rt E c g mb (.slice (some ⟨p, 0, none⟩) G.N cap) sl W ∧ Fr p W1 W))
      case first =>
        clear HT HP HMu HS0 hcap
        go_region_with (first
          | (go_at_call 46; refine (HC.out sb hlb' _ HM3.out).mono ?_; rintro e w4 ⟨rfl, hM4, hF4⟩; have HM4 := Lib.hid hM4; have HF4 := Lib.hid (HF3.out.trans hF4); clear hM4 hF4)
          | (go_at_call 46; refine HC1.out.mono ?_; rintro e w3 ⟨rfl, hM3, hF3⟩; have HM3 := Lib.hid hM3; have HF3 := Lib.hid hF3.of_drew; have HX3 := Lib.hid ((HF3.out.2 _ hbxl hbxp).trans HBX.out); obtain ⟨q0, q1, q2⟩ := three_cells HX3.out; clear hM3 hF3))
        all_goals
          go_wp2_with fail
          go_meet
          exact ⟨⟨rfl, rfl⟩, Lib.hid ⟨HM4.out, HF4.out⟩⟩
      case rest =>
        obtain ⟨⟨rfl, rfl⟩, hMF⟩ := hcut
        obtain ⟨hM5, hF⟩ := hMF.out
        have hxb := (hF.2 _ hbxl hbxp).trans HBX.out
        obtain ⟨q0, q1, q2⟩ := three_cells hxb
        have hF5 : Fr2 p g w _ := HT.out.fr.trans ((Fr2.of_below HBB.out).trans (hF.two g))
        have hS5 := (HP.out.keep HBB.out).fr2 HM1.out (hF.two g)
        have hgi := HT.out.gi
        have la := hgi.lt sa hla'
        have lb := hgi.lt sb hlb'
        have ra := hgi.fix sa hla'
        have rb := hgi.fix sb hlb'
        have hsz := hF5.1.size
        have hN0 : 0 < G.N := by omega
        have hE6 : ∀ i, i < G.N → (G.ag i).length ≤ 1000000 := fun i hi => Nat.le_trans (hE i hi) hE2
        have hc6 : c ≤ 1000000000 := by have := HT.out.few; omega
        have HTl := Lib.hid (fun (v' : Value) (w5 w6 : World) (ws' : List Stp) (rt' : Nat → Nat) (r : Ending) (e : stepG G rt ⟨sa, sb, sj⟩ ws = some (rt', ws')) hM hS hF hg => HT.out.tail (v' := v') (w5 := w5) (w6 := w6) (r := r) hE e hM hS hF hg)
        clear z0 z1 z2 hMF HC HC1 hF
        by_cases he : rt sa = rt sb
        · have e : stepG G rt ⟨sa, sb, sj⟩ ws = some (rt, ws) := by unfold stepG; rw [if_pos he]
          have hez : (((rt sa : Nat) : Int) == ((rt sb : Nat) : Int)) = true := by simp; omega
          have HStep := Lib.hid e; have HM9 := Lib.hid hM5; have HS9 := Lib.hid hS5; have HF9 := Lib.hid hF5
          have HG := Lib.hid (goes_any hM5 hgi hE6 hN hN0 hE2 hc6)
          clear e hM5 hS5 hF5 hgi hE6
          go_wp2_with (go_at_call 50; refine HG.out.mono ?_)
          rintro r w6 hg6
          rcases HTl.out _ _ _ _ _ _ HStep.out HM9.out HS9.out HF9.out hg6 with ⟨rfl, rfl, hR⟩ | ⟨rfl, m, hm, hJ⟩
          · have HR := Lib.hid hR
            clear hR hg6
            go_wp2
            go_ret
            exact ⟨⟨rfl, HR.out.1.2⟩, HR.out.2⟩
          · have HJ := Lib.hid hJ
            have HSh := Lib.hid HS9.out
            clear hg6 hJ
            go_wp2
            go_roundw
            case rel => exact ⟨_, _, _, rfl, Lib.hid ⟨m, HJ.out⟩⟩
            case measure =>
              have h1 := mu_le HJ.out
              have h2 := HMu.out
              show muJ _ _ _ < muJ _ _ _
              rw [h2]; exact Nat.lt_of_le_of_lt h1 hm
        · have hez : (((rt sa : Nat) : Int) == ((rt sb : Nat) : Int)) = false := by simp; omega
          have hM6 := Lib.hid hM5
          cases sj with
          | true =>
            have e : stepG G rt ⟨sa, sb, true⟩ ws = some (un rt (rt sa) (rt sb), ws) := by unfold stepG; rw [if_neg he, if_pos (Or.inl rfl)]
            obtain ⟨_, _, ⟨nx, hh, Wy, r0, s0⟩, _⟩ := hM5
            have hne : rt sa ≠ rt sb := he
            obtain ⟨t1, t2, _, _⟩ := GM.set hM6.out r0 s0 la (Wy.un la lb ra rb hne)
            have f3 := r0.frozenAt (rt sa * 4 + 3)
            have x3 := cell3 r0 la
            obtain ⟨hpl5, hcap5, _⟩ := hM6.out.part la
            have y0 := hM6.out.top0
            have hg5 := hM6.out.lt
            have haz : ((rt sa : Nat) : Int) < (G.N : Int) := by omega
            obtain ⟨⟨gi2, _⟩, _, _⟩ := step_inv hE hgi HT.out.sk e
            have HStep := Lib.hid e; have HM9 := Lib.hid t1; have HS9 := Lib.hid (hS5.fr2 hM6.out (t2.two g)); have HF9 := Lib.hid (hF5.trans (t2.two g))
            have HG := Lib.hid (goes_any t1 gi2 hE6 hN hN0 hE2 hc6)
            clear e hS5 hF5 hgi hE6 r0 s0 t1 t2 Wy gi2
            go_wp2_with (go_at_call 50; refine HG.out.mono ?_)
            rintro r w6 hg6
            rcases HTl.out _ _ _ _ _ _ HStep.out HM9.out HS9.out HF9.out hg6 with ⟨rfl, rfl, hR⟩ | ⟨rfl, m, hm, hJ⟩
            · have HR := Lib.hid hR
              clear hR hg6
              go_wp2
              go_ret
              exact ⟨⟨rfl, HR.out.1.2⟩, HR.out.2⟩
            · have HJ := Lib.hid hJ
              have HSh := Lib.hid HS9.out
              clear hg6 hJ
              go_wp2
              go_roundw
              case rel => exact ⟨_, _, _, rfl, Lib.hid ⟨m, HJ.out⟩⟩
              case measure =>
                have h1 := mu_le HJ.out
                have h2 := HMu.out
                show muJ _ _ _ < muJ _ _ _
                rw [h2]; exact Nat.lt_of_le_of_lt h1 hm
          | false =>
            cases va : (G.tr (rt sa)).isV with
            | true =>
              have e : stepG G rt ⟨sa, sb, false⟩ ws = some (un rt (rt sa) (rt sb), ws) := by unfold stepG; rw [if_neg he, if_pos (Or.inr va)]
              obtain ⟨_, _, ⟨nx, hh, Wy, r0, s0⟩, _⟩ := hM5
              have hne : rt sa ≠ rt sb := he
              obtain ⟨t1, t2, _, _⟩ := GM.set hM6.out r0 s0 la (Wy.un la lb ra rb hne)
              have f3 := r0.frozenAt (rt sa * 4 + 3)
              have x3 := cell3 r0 la
              obtain ⟨hpl5, hcap5, _⟩ := hM6.out.part la
              have y0 := hM6.out.top0
              have hg5 := hM6.out.lt
              have haz : ((rt sa : Nat) : Int) < (G.N : Int) := by omega
              obtain ⟨⟨gi2, _⟩, _, _⟩ := step_inv hE hgi HT.out.sk e
              have HStep := Lib.hid e; have HM9 := Lib.hid t1; have HS9 := Lib.hid (hS5.fr2 hM6.out (t2.two g)); have HF9 := Lib.hid (hF5.trans (t2.two g))
              have HG := Lib.hid (goes_any t1 gi2 hE6 hN hN0 hE2 hc6)
              clear e hS5 hF5 hgi hE6 r0 s0 t1 t2 Wy gi2
              have HV := Lib.hid (isVar_any hM6.out la)
              rw [va] at HV
              go_wp2_with (go_at_call 47; refine HV.out.mono ?_)
              rintro r w5 ⟨rfl, rfl⟩
              go_wp2_with (go_at_call 50; refine HG.out.mono ?_)
              rintro r w6 hg6
              rcases HTl.out _ _ _ _ _ _ HStep.out HM9.out HS9.out HF9.out hg6 with ⟨rfl, rfl, hR⟩ | ⟨rfl, m, hm, hJ⟩
              · have HR := Lib.hid hR
                clear hR hg6
                go_wp2
                go_ret
                exact ⟨⟨rfl, HR.out.1.2⟩, HR.out.2⟩
              · have HJ := Lib.hid hJ
                have HSh := Lib.hid HS9.out
                clear hg6 hJ
                go_wp2
                go_roundw
                case rel => exact ⟨_, _, _, rfl, Lib.hid ⟨m, HJ.out⟩⟩
                case measure =>
                  have h1 := mu_le HJ.out
                  have h2 := HMu.out
                  show muJ _ _ _ < muJ _ _ _
                  rw [h2]; exact Nat.lt_of_le_of_lt h1 hm
            | false =>
              have HV := Lib.hid (isVar_any hM6.out la)
              rw [va] at HV
              have hcn : ¬ ((⟨sa, sb, false⟩ : Stp).j = true ∨ (G.tr (rt sa)).isV = true) := fun h => h.elim (fun h => by cases h) (fun h => by rw [va] at h; cases h)
              cases vb : (G.tr (rt sb)).isV with
              | true =>
                have e : stepG G rt ⟨sa, sb, false⟩ ws = some (un rt (rt sb) (rt sa), ws) := by unfold stepG; rw [if_neg he, if_neg hcn, if_pos vb]
                obtain ⟨_, _, ⟨nx, hh, Wy, r0, s0⟩, _⟩ := hM5
                have hne : rt sb ≠ rt sa := fun e => he e.symm
                obtain ⟨t1, t2, _, _⟩ := GM.set hM6.out r0 s0 lb (Wy.un lb la rb ra hne)
                have f3 := r0.frozenAt (rt sb * 4 + 3)
                have x3 := cell3 r0 lb
                obtain ⟨hpl5, hcap5, _⟩ := hM6.out.part lb
                have y0 := hM6.out.top0
                have hg5 := hM6.out.lt
                have haz : ((rt sb : Nat) : Int) < (G.N : Int) := by omega
                obtain ⟨⟨gi2, _⟩, _, _⟩ := step_inv hE hgi HT.out.sk e
                have HStep := Lib.hid e; have HM9 := Lib.hid t1; have HS9 := Lib.hid (hS5.fr2 hM6.out (t2.two g)); have HF9 := Lib.hid (hF5.trans (t2.two g))
                have HG := Lib.hid (goes_any t1 gi2 hE6 hN hN0 hE2 hc6)
                clear e hS5 hF5 hgi hE6 r0 s0 t1 t2 Wy gi2
                have HV2 := Lib.hid (isVar_any hM6.out lb)
                rw [vb] at HV2
                clear hcn va vb
                go_wp2_with (go_at_call 47; refine HV.out.mono ?_)
                rintro r w5 ⟨rfl, rfl⟩
                go_wp2_with (go_at_call 47; refine HV2.out.mono ?_)
                rintro r w5 ⟨rfl, rfl⟩
                go_wp2_with (go_at_call 50; refine HG.out.mono ?_)
                rintro r w6 hg6
                rcases HTl.out _ _ _ _ _ _ HStep.out HM9.out HS9.out HF9.out hg6 with ⟨rfl, rfl, hR⟩ | ⟨rfl, m, hm, hJ⟩
                · have HR := Lib.hid hR
                  clear hR hg6
                  go_wp2
                  go_ret
                  exact ⟨⟨rfl, HR.out.1.2⟩, HR.out.2⟩
                · have HJ := Lib.hid hJ
                  have HSh := Lib.hid HS9.out
                  clear hg6 hJ
                  go_wp2
                  go_roundw
                  case rel => exact ⟨_, _, _, rfl, Lib.hid ⟨m, HJ.out⟩⟩
                  case measure =>
                    have h1 := mu_le HJ.out
                    have h2 := HMu.out
                    show muJ _ _ _ < muJ _ _ _
                    rw [h2]; exact Nat.lt_of_le_of_lt h1 hm
              | false =>
                have HV2 := Lib.hid (isVar_any hM6.out lb)
                rw [vb] at HV2
                have HL := Lib.hid (alike_any hM6.out hgi.ok la lb va vb)
                have hvb : ¬ (G.tr (rt sb)).isV = true := by rw [vb]; decide
                cases lk : likeB G (rt sa) (rt sb) with
                | true =>
                  have e : stepG G rt ⟨sa, sb, false⟩ ws = some (rt, pairsU (G.ag (rt sa)) (G.ag (rt sb)) ++ ⟨rt sa, rt sb, true⟩ :: ws) := by unfold stepG; rw [if_neg he, if_neg hcn, if_neg hvb, if_pos lk]
                  rw [lk] at HL
                  have hll : (G.ag (rt sa)).length = (G.ag (rt sb)).length := by unfold likeB at lk; exact (of_decide_eq_true lk).2.2
                  have hag := hE6 _ la
                  have HStep := Lib.hid e; have HS7 := Lib.hid hS5; have HF7 := Lib.hid hF5; have HGi := Lib.hid hgi
                  clear e hS5 hF5 hM5 lk hcn hvb va vb
                  go_wp2_with (go_at_call 47; refine HV.out.mono ?_)
                  rintro r w5 ⟨rfl, rfl⟩
                  go_wp2_with (go_at_call 47; refine HV2.out.mono ?_)
                  rintro r w5 ⟨rfl, rfl⟩
                  go_wp2_with (go_at_call 48; refine HL.out.mono ?_)
                  rintro r w5 ⟨rfl, hb5⟩
                  have HM7 := Lib.hid (hM6.out.keep hb5)
                  have HP7 := Lib.hid (push_any HM7.out la lb hll (HS7.out.keep hb5) (Nat.le_trans hsz hb5.size) (by omega))
                  have HB7 := Lib.hid hb5
                  clear hb5 HL
                  go_wp2_with (go_at_call 49; refine HP7.out.mono ?_)
                  rintro r w7 ⟨v7, rfl, hS8, hK8, hB8⟩
                  obtain ⟨a7, n7, c7, rfl⟩ : ∃ a n c, v7 = .slice a n c := by
                    obtain ⟨a, c, e⟩ := row_slice hS8
                    exact ⟨a, _, c, e⟩
                  have HM9 := Lib.hid (HM7.out.keepS hK8 (hB8.mono (Nat.zero_le _)))
                  have HS9 := Lib.hid hS8
                  have HF9 := Lib.hid (HF7.out.below_fr ((HB7.out.mono hsz).trans hB8))
                  have HG := Lib.hid (goes_any HM9.out HGi.out hE6 hN hN0 hE2 hc6)
                  clear hS8 hK8 hB8 HP7 hE6
                  go_wp2_with (go_at_call 50; refine HG.out.mono ?_)
                  rintro r w6 hg6
                  rcases HTl.out _ _ _ _ _ _ HStep.out HM9.out HS9.out HF9.out hg6 with ⟨rfl, rfl, hR⟩ | ⟨rfl, m, hm, hJ⟩
                  · have HR := Lib.hid hR
                    clear hR hg6
                    go_wp2
                    go_ret
                    exact ⟨⟨rfl, HR.out.1.2⟩, HR.out.2⟩
                  · have HJ := Lib.hid hJ
                    have HSh := Lib.hid HS9.out
                    clear hg6 hJ
                    go_wp2
                    go_roundw
                    case rel => exact ⟨_, _, _, rfl, Lib.hid ⟨m, HJ.out⟩⟩
                    case measure =>
                      have h1 := mu_le HJ.out
                      have h2 := HMu.out
                      show muJ _ _ _ < muJ _ _ _
                      rw [h2]; exact Nat.lt_of_le_of_lt h1 hm
                | false =>
                  have e : stepG G rt ⟨sa, sb, false⟩ ws = none := by unfold stepG; rw [if_neg he, if_neg hcn, if_neg hvb, if_neg (by rw [lk]; decide)]
                  rw [lk] at HL
                  have HStop := Lib.hid (HT.out.stop e)
                  have HF7 := Lib.hid hF5
                  clear e hS5 hF5 hM5 lk hcn hvb va vb
                  go_wp2_with (go_at_call 47; refine HV.out.mono ?_)
                  rintro r w5 ⟨rfl, rfl⟩
                  go_wp2_with (go_at_call 47; refine HV2.out.mono ?_)
                  rintro r w5 ⟨rfl, rfl⟩
                  go_wp2_with (go_at_call 48; refine HL.out.mono ?_)
                  rintro r w5 ⟨rfl, hb5⟩
                  have HM7 := Lib.hid (hM6.out.keep hb5)
                  have HF8 := Lib.hid (HF7.out.below_fr (hb5.mono hsz))
                  clear hb5
                  go_wp2
                  go_ret
                  exact ⟨⟨by rw [HStop.out.1]; rfl, c, HT.out.few, by rw [HStop.out.2]; exact HM7.out⟩, HF8.out⟩
end Go.Proofs.YthpphjkoiipkkaaDoor
/- The document's get: the first of a name. -/
namespace Go.Proofs.YthpphjkoiipkkaaDoor
open Go.RowKit Go.Sort Go.Lib
attribute [local go_sem] Oper.semAt_some

theorem RowG.lt {T : TypeId} {g : Nat} {l : List PR} {w : World} (h : RowG T g l w) : g < w.heap.size := by
  obtain ⟨cs, h1, _⟩ := h; exact (Array.getElem?_eq_some_iff.1 h1).1
theorem RowG.same {T : TypeId} {g : Nat} {l : List PR} {w w' : World} (h : RowG T g l w) (k : w'.heap[g]? = w.heap[g]?) : RowG T g l w' := by
  obtain ⟨cs, h1, h2⟩ := h; exact ⟨cs, k.trans h1, h2⟩
theorem RowG.below {T : TypeId} {g : Nat} {l : List PR} {w w' : World} (h : RowG T g l w) (k : Below w.heap.size w w') : RowG T g l w' := h.same (k.block g h.lt)
theorem RowG.cells {T : TypeId} {g : Nat} {l : List PR} {w : World} (h : RowG T g l w) {i : Nat} (hi : i < l.length) :
    w.cell? ⟨g, i * 4, none⟩ = some (.string (l.getD i noP).n) ∧ w.cell? ⟨g, i * 4 + 1, none⟩ = some (.int .i64 (l.getD i noP).t.kind) ∧ w.cell? ⟨g, i * 4 + 2, none⟩ = some (.string (l.getD i noP).t.name) ∧ w.cell? ⟨g, i * 4 + 3, none⟩ = some (.slice (l.getD i noP).a (l.getD i noP).t.kids.length (l.getD i noP).c) := by
  obtain ⟨cs, h1, _, h3⟩ := h
  rw [Lib.cell_of_heap h1, Lib.cell_of_heap h1, Lib.cell_of_heap h1, Lib.cell_of_heap h1]
  exact h3 i hi
theorem GivenG.shape {T : TypeId} {v : Value} {d : List PR} {w : World} (h : GivenG T v d w) : ∃ a c, v = .slice a d.length c ∧ ∀ i, i < d.length → ∃ g, a = some ⟨g, 0, none⟩ ∧ RowG T g d w := by
  rcases h with ⟨rfl, rfl⟩ | ⟨_, g, cap, rfl, hr⟩
  · exact ⟨none, 0, rfl, fun i hi => absurd hi (Nat.not_lt_zero _)⟩
  · exact ⟨_, cap, rfl, fun i _ => ⟨g, rfl, hr⟩⟩
theorem GivenG.below {T : TypeId} {v : Value} {d : List PR} {w w' : World} (h : GivenG T v d w) (hb : Below w.heap.size w w') : GivenG T v d w' := by
  rcases h with h | ⟨h0, g, cap, e, hr⟩
  · exact .inl h
  · exact .inr ⟨h0, g, cap, e, hr.below hb⟩
theorem lk_ahead (n : ByteArray) : ∀ (l : List PR) (i : Nat), i < l.length → (∀ j, j < i → (l.getD j noP).n ≠ n) → (l.getD i noP).n = n → lk n l = some (l.getD i noP)
  | [], i, hi, _, _ => absurd hi (Nat.not_lt_zero _)
  | x :: l, 0, _, _, h => by rw [lk_cons]; exact if_pos h
  | x :: l, i + 1, hi, ha, h => by
    rw [lk_cons, if_neg (show ¬ x.n = n from ha 0 (Nat.succ_pos _))]
    exact lk_ahead n l i (by simpa using hi) (fun j hj => ha (j + 1) (by omega)) h
theorem lk_none (n : ByteArray) : ∀ (l : List PR), (∀ j, j < l.length → (l.getD j noP).n ≠ n) → lk n l = none
  | [], _ => rfl
  | x :: l, ha => by
    rw [lk_cons, if_neg (show ¬ x.n = n from ha 0 (Nat.succ_pos _))]
    exact lk_none n l (fun j hj => ha (j + 1) (by simpa using hj))

theorem next_none {d : List PR} {n : ByteArray} {i : Nat} (hA : ∀ j, j < i → (d.getD j noP).n ≠ n) (h : (d.getD i noP).n ≠ n) : ∀ j, j < i + 1 → (d.getD j noP).n ≠ n := by
  intro j hj
  by_cases e : j = i
  · rw [e]; exact h
  · exact hA j (by omega)
set_option maxRecDepth 100000 in
set_option maxHeartbeats 2000000 in
theorem rget_any (v : Value) (d : List PR) (n : ByteArray) (w : World) (h : GivenG 53 v d w) (hl : d.length < 1152921504606846976) :
    Calls Tryd.prog 33 #[v, .string n] w fun e w' => e = .returned (.tuple #[fv' (lk n d), .bool (lk n d).isSome]) ∧ Below w.heap.size w w' := by
  obtain ⟨a, c, rfl, hr⟩ := h.shape
  have HR := Lib.hid hr
  have HB0 := Lib.hid (fun o => (Below.refl _ w).alloc (Nat.le_refl _) o)
  clear h hr
  obtain ⟨res, hres⟩ : ∃ r, lk n d = r := ⟨_, rfl⟩
  have HRes := Lib.hid hres
  rw [hres]
  clear hres
  go_enter Tryd.func33, Tryd.ntmps33
  go_wp2
  go_loopw [6] (fun vi wr => ∃ i : Nat, i ≤ d.length ∧ vi = .int .i64 i ∧ Hid (∀ j, j < i → (d.getD j noP).n ≠ n) ∧ Hid (Below w.heap.size w wr) ∧ Hid (wr.heap[w.heap.size]? = some (.cells #[.int .i64 0, .string ⟨#[]⟩, .slice none 0 0] 29 (0, 0)))) (fun vi _ => d.length - (intOf vi).toNat)
  case atStart => exact ⟨0, Nat.zero_le _, rfl, Lib.hid (fun j hj => absurd hj (Nat.not_lt_zero _)), Lib.hid (HB0.out _), Lib.hid (alloc_new w _)⟩
  case round =>
    obtain ⟨i, hi, rfl, hA, hB, hZ⟩ := hrel
    obtain ⟨z0, z1, z2⟩ := three_cells hZ.out
    have u0 := Lib.frozen_of_heap hZ.out 0
    have u1 := Lib.frozen_of_heap hZ.out 1
    have u2 := Lib.frozen_of_heap hZ.out 2
    have lz := (Array.getElem?_eq_some_iff.1 hZ.out).1
    by_cases hlt : i < d.length
    · obtain ⟨g, rfl, hr⟩ := HR.out i hlt
      obtain ⟨x0, x1, x2, x3⟩ := (hr.below hB.out).cells hlt
      have hiz : (i : Int) < (d.length : Int) := by omega
      have HN := Lib.hid (fun h => lk_ahead n d i hlt hA.out h)
      have HE := Lib.hid (next_none (d := d) (n := n) hA.out)
      clear hr HR
      generalize d.getD i noP = x at x0 x1 x2 x3 HN HE
      by_cases hq : x.n = n
      · have hqB : (x.n.toList == n.toList) = true := by rw [bytes_beq]; exact eqB_true hq
        have hs : res = some x := by rw [← HRes.out]; exact HN.out hq
        subst hs
        clear HRes HN HE hq
        go_wp2
        have hs3 := set3_block hZ.out (.int .i64 x.t.kind) (.string x.t.name) (.slice x.a x.t.kids.length x.c)
        have hc := three_cells hs3
        refine bodyPost_ret (v := .tuple #[.agg #[.int .i64 x.t.kind, .string x.t.name, .slice x.a x.t.kids.length x.c], .bool true]) (by simp [results, Tryd.results33, go_sem, hc.1, hc.2.1, hc.2.2]) rfl ⟨rfl, below_set3 hB.out (Nat.le_refl _) _ _ _⟩
      · have hqB : (x.n.toList == n.toList) = false := by rw [bytes_beq]; exact eqB_false hq
        have HQ := Lib.hid hq
        clear hq HN
        go_wp2
        go_roundw
        case rel => exact ⟨i + 1, by omega, by go_num, Lib.hid (HE.out HQ.out), hB, hZ⟩
        case measure => simp [intOf]; omega
    · obtain rfl : i = d.length := by omega
      have hs : res = none := by rw [← HRes.out]; exact lk_none n d hA.out
      subst hs
      clear HRes HR
      go_wp2
      have hs3 := set3_block hZ.out (.int .i64 0) (.string ⟨#[]⟩) (.slice none 0 0)
      have hc := three_cells hs3
      refine bodyPost_ret (v := .tuple #[.agg #[.int .i64 0, .string ⟨#[]⟩, .slice none 0 0], .bool false]) (by simp [results, Tryd.results33, go_sem, hc.1, hc.2.1, hc.2.2]) rfl ⟨rfl, below_set3 hB.out (Nat.le_refl _) _ _ _⟩
end Go.Proofs.YthpphjkoiipkkaaDoor
/- The document's Apply. -/
namespace Go.Proofs.YthpphjkoiipkkaaDoor
open Go.RowKit Go.Sort Go.Lib
attribute [local go_sem] Oper.semAt_some

/-- A type, where its row lies. -/
abbrev Tl := T × Option Addr × Nat
/-- The cells of a row of types. -/
def cellsOf (l : List Tl) : List Value := l.flatMap (fun x => [.int .i64 x.1.kind, .string x.1.name, .slice x.2.1 x.1.kids.length x.2.2])
theorem cellsOf_snoc (l : List Tl) (x : Tl) : cellsOf (l ++ [x]) = cellsOf l ++ [.int .i64 x.1.kind, .string x.1.name, .slice x.2.1 x.1.kids.length x.2.2] := by simp [cellsOf]
theorem cellsOf_cons (x : Tl) (l : List Tl) : cellsOf (x :: l) = [.int .i64 x.1.kind, .string x.1.name, .slice x.2.1 x.1.kids.length x.2.2] ++ cellsOf l := by simp [cellsOf]
theorem cellsOf_at (l : List Tl) (i : Nat) (h : i < l.length) : (cellsOf l)[i * 3]? = some (.int .i64 l[i].1.kind) ∧ (cellsOf l)[i * 3 + 1]? = some (.string l[i].1.name) ∧ (cellsOf l)[i * 3 + 2]? = some (.slice l[i].2.1 l[i].1.kids.length l[i].2.2) := by
  induction l generalizing i with
  | nil => cases h
  | cons x l ih =>
    rw [cellsOf_cons]
    cases i with
    | zero => exact ⟨rfl, rfl, rfl⟩
    | succ i =>
      have := ih i (by simpa using h)
      rw [show (i + 1) * 3 = i * 3 + 3 by omega, List.getElem?_append_right (by simp), List.getElem?_append_right (by simp), List.getElem?_append_right (by simp)]
      simp only [List.length_cons, List.length_nil, List.getElem_cons_succ]
      rw [show i * 3 + 3 - (0 + 1 + 1 + 1) = i * 3 by omega, show i * 3 + 3 + 1 - (0 + 1 + 1 + 1) = i * 3 + 1 by omega, show i * 3 + 3 + 2 - (0 + 1 + 1 + 1) = i * 3 + 2 by omega]
      exact this
/-- A row of types out of its cells, in blocks that are ok. -/
theorem in_of_row {ok : Nat → Prop} {W : World} {B : Nat} {v : Value} {xs : List Tl} {t : T} (ht : t.kids = xs.map (·.1)) (h : W.ownsRow B 29 3 v xs.length (cellsOf xs)) (hv : ∀ g, v.ownBlock = some g → ok g) (hk : ∀ x ∈ xs, TyIn ok W x.1 (.slice x.2.1 x.1.kids.length x.2.2)) : TyIn ok W t v := by
  have hlen : t.kids.length = xs.length := by rw [ht]; simp
  rcases h.2 with ⟨rfl, h0⟩ | ⟨g, cap, cur, rfl, _, hg, hc, _, hsz, htk⟩
  · exact .leaf t none 0 (List.length_eq_zero_iff.1 (hlen.trans h0))
  · have hat : ∀ j, j < xs.length * 3 → cur[j]? = (cellsOf xs)[j]? := fun j hj => by
      rw [← htk, List.getElem?_take, if_pos hj, Array.getElem?_toList]
    rw [← hlen]
    refine .row t g cap cur (0, 0) (fun i => if h : i < xs.length then .slice xs[i].2.1 xs[i].1.kids.length xs[i].2.2 else undef) (hv g rfl) hg (by omega) (fun i hi => ?_) (fun i hi => ?_)
    · have hi' : i < xs.length := by omega
      obtain ⟨e1, e2, e3⟩ := cellsOf_at xs i hi'
      have ek : t.kids[i] = xs[i].1 := by simp [ht]
      simp only [dif_pos hi', ek]
      exact ⟨(hat _ (by omega)).trans e1, (hat _ (by omega)).trans e2, (hat _ (by omega)).trans e3⟩
    · have hi' : i < xs.length := by omega
      have ek : t.kids[i] = xs[i].1 := by simp [ht]
      simp only [dif_pos hi', ek]
      exact hk _ (List.getElem_mem hi')
/-- A part of a row. -/
theorem TyIn.part {K : Nat → Prop} {X : World} {t : T} {a : Option Addr} {c : Nat} (h : TyIn K X t (.slice a t.kids.length c)) (i : Nat) (hi : i < t.kids.length) : ∃ g pa ca, a = some ⟨g, 0, none⟩ ∧ t.kids.length ≤ c ∧ ∀ W, KeepK K X W → (g < W.heap.size ∧ W.cell? ⟨g, i * 3, none⟩ = some (.int .i64 t.kids[i].kind) ∧ W.cell? ⟨g, i * 3 + 1, none⟩ = some (.string t.kids[i].name) ∧ W.cell? ⟨g, i * 3 + 2, none⟩ = some (.slice pa t.kids[i].kids.length ca)) ∧ TyIn K W t.kids[i] (.slice pa t.kids[i].kids.length ca) := by
  obtain ⟨v, hv⟩ : ∃ v, v = Value.slice a t.kids.length c := ⟨_, rfl⟩
  rw [← hv] at h
  cases h with
  | leaf _ _ _ h0 => rw [h0] at hi; cases hi
  | row _ g cap cs fz z h0 h1 h2 h3 h4 =>
    cases hv
    obtain ⟨pa, ca, e⟩ := (h4 i hi).shape
    obtain ⟨c1, c2, c3⟩ := h3 i hi
    rw [e] at c3
    refine ⟨g, pa, ca, rfl, h2, fun W hk => ?_⟩
    have hW := (hk g h0 (Array.getElem?_eq_some_iff.1 h1).1).trans h1
    refine ⟨⟨(Array.getElem?_eq_some_iff.1 hW).1, ?_, ?_, ?_⟩, ?_⟩
    · simp only [World.cell?, hW]; simpa using c1
    · simp only [World.cell?, hW]; simpa using c2
    · simp only [World.cell?, hW]; simpa using c3
    · rw [← e]; exact (h4 i hi).keepK hk

/-- The pairs that the document's Apply is handed: their types' rows lie ahead of N. -/
def Src4 (N : Nat) (v : Value) (d : List PR) (w : World) : Prop := GivenG 53 v d w ∧ (∀ x ∈ d, TyIn (fun k => k < N) w x.t (.slice x.a x.t.kids.length x.c)) ∧ N ≤ w.heap.size
theorem Src4.below {N : Nat} {v : Value} {d : List PR} {w W : World} (h : Src4 N v d w) (hb : Below w.heap.size w W) : Src4 N v d W :=
  ⟨h.1.below hb, fun x hx => (h.2.1 x hx).keep fun k _ _ hk hh => (hb.block k (by have := h.2.2; omega)).trans hh, Nat.le_trans h.2.2 hb.size⟩
def RApp (d : List PR) (t : T) : Prop := ∀ (N : Nat) (v : Value) (a : Option Addr) (c : Nat) (w : World), Src4 N v d w → TyIn (fun k => k < N) w t (.slice a t.kids.length c) → tsize t ≤ 1000000000 →
    Calls Tryd.prog 15 #[v, tyV t (.slice a t.kids.length c)] w fun e w' => (∃ a' c', e = .returned (tyV (app d t) (.slice a' (app d t).kids.length c')) ∧ TyIn (fun k => k < N ∨ w.heap.size ≤ k) w' (app d t) (.slice a' (app d t).kids.length c')) ∧ Below w.heap.size w w'

set_option maxRecDepth 100000 in
set_option maxHeartbeats 4000000 in
theorem rapp_var (d : List PR) (hl : d.length < 1000000) (n : ByteArray) : RApp d (.var n) := by
  intro N v a c w hs ht hz
  have HG := Lib.hid (fun (V : World) (hb : Below w.heap.size w V) => rget_any v d n V (hs.1.below hb) (by omega))
  have HS := Lib.hid hs
  obtain ⟨av, cv, rfl, _⟩ := hs.1.shape
  have HB2 := Lib.hid (fun o1 o2 => below_two w o1 o2)
  have e0 : (T.var n).kids.length = 0 := rfl
  have e1 : (T.var n).kind = 1 := rfl
  have e2 : (T.var n).name = n := rfl
  obtain ⟨res, hres⟩ : ∃ r, lk n d = r := ⟨_, rfl⟩
  have HRes := Lib.hid hres
  have hap : app d (.var n) = ((res.map PR.t).getD (.var n)) := by rw [app_v]; unfold ty; rw [hres]
  rw [hap]
  simp only [tyV, e0, e1, e2]
  clear hs ht hz hap e0 e1 e2
  rw [hres] at HG
  clear hres
  go_enter Tryd.func15, Tryd.ntmps15
  cases res with
  | none =>
    simp only [fv', Option.isSome_none, Option.map_none, Option.getD_none] at HG ⊢
    go_wp2_with (go_at_call 33; refine (HG.out _ (HB2.out _ _)).mono ?_)
    rintro e w2 ⟨rfl, hb2⟩
    have hbw : Below w.heap.size w w2 := (HB2.out _ _).trans (hb2.mono (by simp; omega))
    have hy := (hb2.block w.heap.size (by simp; omega)).trans ((Below.heap_alloc _ _ _ (by simp)).trans (alloc_new w _))
    have hz := (hb2.block (w.heap.size + 1) (by simp)).trans (new_two w _ _)
    obtain ⟨y0, y1, y2⟩ := three_cells hy
    obtain ⟨z0, z1, z2⟩ := three_cells hz
    have u0 := Lib.frozen_of_heap hz 0
    have u1 := Lib.frozen_of_heap hz 1
    have u2 := Lib.frozen_of_heap hz 2
    have ly := (Array.getElem?_eq_some_iff.1 hy).1
    have lz := (Array.getElem?_eq_some_iff.1 hz).1
    have HB := Lib.hid hbw
    have HZ := Lib.hid hz
    have lW : w.heap.size < w2.heap.size := by omega
    clear hb2 hbw hy hz HG
    go_wp2
    have hs3 := set3_block HZ.out (.int .i64 1) (.string n) (.slice a 0 c)
    have hc := three_cells ((Below.heap_alloc _ (.cells #[.int .i64 0, .string ⟨#[]⟩, .slice none 0 0] 29) _ (Array.getElem?_eq_some_iff.1 hs3).1).trans hs3)
    exact bodyPost_ret (v := .agg #[.int .i64 1, .string n, .slice a 0 c]) (by simp [results, Tryd.results15, go_sem, hc.1, hc.2.1, hc.2.2]) rfl ⟨⟨a, c, rfl, .leaf _ _ _ rfl⟩, (below_set3 HB.out (Nat.le_succ _) _ _ _).alloc (by have := HB.out.size; simp; omega) _⟩
  | some x =>
    simp only [fv', Option.isSome_some, Option.map_some, Option.getD_some] at HG ⊢
    have HX := Lib.hid (HS.out.2.1 x (lk_name HRes.out).1)
    have HN := Lib.hid HS.out.2.2
    go_wp2_with (go_at_call 33; refine (HG.out _ (HB2.out _ _)).mono ?_)
    rintro e w2 ⟨rfl, hb2⟩
    have hbw : Below w.heap.size w w2 := (HB2.out _ _).trans (hb2.mono (by simp; omega))
    have hy := (hb2.block w.heap.size (by simp; omega)).trans ((Below.heap_alloc _ _ _ (by simp)).trans (alloc_new w _))
    have hz := (hb2.block (w.heap.size + 1) (by simp)).trans (new_two w _ _)
    obtain ⟨y0, y1, y2⟩ := three_cells hy
    obtain ⟨z0, z1, z2⟩ := three_cells hz
    have u0 := Lib.frozen_of_heap hz 0
    have u1 := Lib.frozen_of_heap hz 1
    have u2 := Lib.frozen_of_heap hz 2
    have ly := (Array.getElem?_eq_some_iff.1 hy).1
    have lz := (Array.getElem?_eq_some_iff.1 hz).1
    have HB := Lib.hid hbw
    have HZ := Lib.hid hz
    have lW : w.heap.size < w2.heap.size := by omega
    clear hb2 hbw hy hz HG
    go_wp2
    have hs3 := set3_block HZ.out (.int .i64 x.t.kind) (.string x.t.name) (.slice x.a x.t.kids.length x.c)
    have hc := three_cells ((Below.heap_alloc _ (.cells #[.int .i64 x.t.kind, .string x.t.name, .slice x.a x.t.kids.length x.c] 29) _ (Array.getElem?_eq_some_iff.1 hs3).1).trans hs3)
    refine bodyPost_ret (v := .agg #[.int .i64 x.t.kind, .string x.t.name, .slice x.a x.t.kids.length x.c]) (by simp [results, Tryd.results15, go_sem, hc.1, hc.2.1, hc.2.2]) rfl ⟨⟨x.a, x.c, rfl, ?_⟩, (below_set3 HB.out (Nat.le_succ _) _ _ _).alloc (by have := HB.out.size; simp; omega) _⟩
    refine (HX.out.keep fun k _ _ hk hh => ?_).mono fun k hk => .inl hk
    have hkw : k < w.heap.size := Nat.lt_of_lt_of_le hk HN.out
    exact (Below.heap_alloc _ _ k (by simp; omega)).trans ((set3_others _ _ _ (by omega)).trans ((HB.out.block k hkw).trans hh))
end Go.Proofs.YthpphjkoiipkkaaDoor
