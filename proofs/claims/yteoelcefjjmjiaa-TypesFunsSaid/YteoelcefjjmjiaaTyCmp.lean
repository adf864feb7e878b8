/- types.Compare, types.Same: the order of types. -/
import Derived.Test.YteoelcefjjmjiaaTySame
import Derived.LoopN
import Derived.Deep.CutRange
import Derived.BigRegion
import Derived.Deep.RegionHeld3
import Derived.Deep.DrawnRows
namespace Go.Proofs.Yteoelcefjjmjiaa
open Go.RowKit
attribute [local go_sem] Oper.semAt_some

set_option maxHeartbeats 1000000 in
theorem nanInt_any (a : Int) (w : World) : Calls Try.prog 46 #[.int .i64 a] w fun e w' => e = .returned (.bool false) ∧ w = w' := by
  have h : (a != a) = false := by simp
  go_enter Try.func46, Try.ntmps46
  go_wp2
  go_ret
  exact ⟨rfl, rfl⟩
set_option maxHeartbeats 1000000 in
theorem nanStr_any (a : ByteArray) (w : World) : Calls Try.prog 47 #[.string a] w fun e w' => e = .returned (.bool false) ∧ w = w' := by
  have h : (a.toList == a.toList) = true := by simp
  go_enter Try.func47, Try.ntmps47
  go_wp2
  go_ret
  exact ⟨rfl, rfl⟩
set_option maxHeartbeats 1000000 in
theorem cmpInt_of (a b r : Int) (w : World) (h : a < b ∧ r = -1 ∨ (¬ a < b ∧ b < a) ∧ r = 1 ∨ (¬ a < b ∧ ¬ b < a) ∧ r = 0) : Calls Try.prog 38 #[.int .i64 a, .int .i64 b] w fun e w' => e = .returned (.int .i64 r) ∧ w = w' := by
  rcases h with ⟨h, rfl⟩ | ⟨⟨h, h'⟩, rfl⟩ | ⟨⟨h, h'⟩, rfl⟩
  all_goals
    go_enter Try.func38, Try.ntmps38
    go_wp2_with (go_at_call 46; refine (nanInt_any _ _).mono ?_; rintro e w2 ⟨rfl, rfl⟩)
    go_ret
    exact ⟨rfl, rfl⟩
theorem cmpInt_any (a b : Int) (w : World) : Calls Try.prog 38 #[.int .i64 a, .int .i64 b] w fun e w' => e = .returned (.int .i64 (sgn a b)) ∧ w = w' :=
  cmpInt_of a b _ w (by unfold sgn; (repeat' split) <;> omega)
set_option maxHeartbeats 1000000 in
theorem cmpStr_of (a b : ByteArray) (r : Int) (w : World) (h : (Op.bytesLess a.toList b.toList = true ∧ r = -1) ∨ ((Op.bytesLess a.toList b.toList = false ∧ (a.toList == b.toList) = false) ∧ r = 1) ∨ ((Op.bytesLess a.toList b.toList = false ∧ (a.toList == b.toList) = true) ∧ r = 0)) : Calls Try.prog 39 #[.string a, .string b] w fun e w' => e = .returned (.int .i64 r) ∧ w = w' := by
  rcases h with ⟨h, rfl⟩ | ⟨⟨h, h'⟩, rfl⟩ | ⟨⟨h, h'⟩, rfl⟩
  all_goals
    go_enter Try.func39, Try.ntmps39
    go_wp2_with (go_at_call 47; refine (nanStr_any _ _).mono ?_; rintro e w2 ⟨rfl, rfl⟩)
    go_ret
    exact ⟨rfl, rfl⟩
theorem cmpStr_any (a b : ByteArray) (w : World) : Calls Try.prog 39 #[.string a, .string b] w fun e w' => e = .returned (.int .i64 (cmpL a.data.toList b.data.toList)) ∧ w = w' := by
  refine cmpStr_of a b _ w ?_
  rw [Lib.toList_data, Lib.toList_data, less_cmpL, beq_cmpL]
  rcases cmpL_unit a.data.toList b.data.toList with h | h | h <;> simp [h]

set_option maxHeartbeats 1000000 in
theorem or_any (b : Nat) (x y z : Int) (w : World) (h : w.heap[b]? = some (.cells #[.int .i64 x, .int .i64 y, .int .i64 z] 3 (0, 0))) :
    Calls Try.prog 37 #[.slice (some ⟨b, 0, none⟩) 3 3] w fun e w' => e = .returned (.int .i64 (orI x (orI y z))) ∧ w = w' := by
  obtain ⟨c0, c1, c2⟩ := three_cells h
  clear h
  by_cases hx : x = 0
  · subst hx
    by_cases hy : y = 0
    · subst hy
      by_cases hz : z = 0
      · subst hz
        go_enter Try.func37, Try.ntmps37
        go_wp2
        refine wp_loop_rounds 4 ?_
        rw [rounds_succ]; go_wp2
        rw [rounds_succ]; go_wp2
        rw [rounds_succ]; go_wp2
        rw [rounds_succ]; go_wp2
        go_ret
        exact ⟨rfl, rfl⟩
      · have hz1 : ((z != 0) = true) := by simpa using hz
        have e : orI 0 (orI 0 z) = z := rfl
        rw [e]; clear e
        go_enter Try.func37, Try.ntmps37
        go_wp2
        refine wp_loop_rounds 3 ?_
        rw [rounds_succ]; go_wp2
        rw [rounds_succ]; go_wp2
        rw [rounds_succ]; go_wp2
        go_ret
        exact ⟨rfl, rfl⟩
    · have hz1 : ((y != 0) = true) := by simpa using hy
      have e : orI 0 (orI y z) = y := by simp [orI, hy]
      rw [e]; clear e
      go_enter Try.func37, Try.ntmps37
      go_wp2
      refine wp_loop_rounds 2 ?_
      rw [rounds_succ]; go_wp2
      rw [rounds_succ]; go_wp2
      go_ret
      exact ⟨rfl, rfl⟩
  · have hz1 : ((x != 0) = true) := by simpa using hx
    have e : orI x (orI y z) = x := by simp [orI, hx]
    rw [e]; clear e
    go_enter Try.func37, Try.ntmps37
    go_wp2
    refine wp_loop_rounds 1 ?_
    rw [rounds_succ]; go_wp2
    go_ret
    exact ⟨rfl, rfl⟩

theorem with_worldC {P : Program} {c : Code} {Q : Exit → Act → World → Prop} {a : Act} {w : World} (S : World → Prop) (h : S w) (k : ∀ W, S W → Code.wp P c Q a W) : Code.wp P c Q a w := k w h
theorem heads_same {p q r c x : Int} (h : c = orI p (orI q (orI r x))) (k : orI p (orI q r) = 0) : c = x := by
  obtain ⟨h1, h2⟩ := orI_zero.1 k
  obtain ⟨h3, h4⟩ := orI_zero.1 h2
  rw [h, h1, h3, h4]; rfl
theorem heads_other {p q r c x d : Int} (h : c = orI p (orI q (orI r x))) (k : orI p (orI q r) = d) (hd : ¬ d = 0) : c = d := by
  rw [h, ← k]
  unfold orI at *
  by_cases hp : p = 0
  · by_cases hq : q = 0
    · by_cases hr : r = 0
      · simp [hp, hq, hr] at k; omega
      · simp [hp, hq, hr]
    · simp [hp, hq]
  · simp [hp]
theorem len_of {p q : Int} {m n : Nat} (h : orI p (orI q (sgn (m : Int) (n : Int))) = 0) : m = n := by
  have := sgn_zero.1 (orI_zero.1 (orI_zero.1 h).2).2
  omega
def CmpOK (t : T) : Prop := ∀ (t' : T) (a b : Option Addr) (c d : Nat) (w : World), TysAt w (.slice a t.kids.length c) t.kids → TysAt w (.slice b t'.kids.length d) t'.kids →
    Calls Try.prog 19 #[tyV t (.slice a t.kids.length c), tyV t' (.slice b t'.kids.length d)] w fun e w' => e = .returned (.int .i64 (cmpT t t')) ∧ Below w.heap.size w w'

theorem cmp_drop (l l' : List T) (i : Nat) (h1 : i < l.length) (h2 : i < l'.length) : cmpTs (l.drop i) (l'.drop i) = orI (cmpT l[i] l'[i]) (cmpTs (l.drop (i + 1)) (l'.drop (i + 1))) := by
  rw [List.drop_eq_getElem_cons h1, List.drop_eq_getElem_cons h2, cmpTs]

set_option maxHeartbeats 600000 in
theorem cmpFunc_of (l l' : List T) (H : ∀ t ∈ l, CmpOK t) (a b : Option Addr) (c d : Nat) (w : World) (h : TysAt w (.slice a l.length c) l) (h' : TysAt w (.slice b l'.length d) l') (hn : l.length < 1152921504606846976) (hl : l.length = l'.length) :
    Calls Try.prog 40 #[.slice a l.length c, .slice b l'.length d, .func (.func 19) #[] #[]] w fun e w' => e = .returned (.int .i64 (cmpTs l l')) ∧ Below w.heap.size w w' := by
  by_cases h0 : l = []
  · subst h0
    obtain rfl : l' = [] := List.length_eq_zero_iff.1 hl.symm
    rw [cmpTs]
    clear h h' H
    go_enter Try.func40, Try.ntmps40
    go_wp2
    go_loopw [13] (fun vi wr => vi = .int .i64 0 ∧ Hid (Below w.heap.size w wr)) (fun _ _ => 0)
    case atStart => exact ⟨rfl, Lib.hid (Below.refl _ _)⟩
    case round =>
      obtain ⟨rfl, hB⟩ := hrel
      go_wp2
      go_ret
      exact ⟨rfl, hB.out⟩
  · have h0' : l' ≠ [] := by intro e; rw [e] at hl; exact h0 (List.length_eq_zero_iff.1 hl)
    obtain ⟨g1, c1, e1, hg1, hc1, r1⟩ := h.row h0
    obtain ⟨g2, c2, e2, hg2, hc2, r2⟩ := h'.row h0'
    cases e1; cases e2
    have HR1 := Lib.hid r1; clear r1
    have HR2 := Lib.hid r2; clear r2
    have HS := Lib.hid H; clear H
    obtain ⟨res, hres⟩ : ∃ r, cmpTs l l' = r := ⟨_, rfl⟩
    have HRes := Lib.hid hres
    rw [hres]; clear hres h h'
    rw [← hl] at hc2 ⊢
    have HL := Lib.hid hl; clear hl
    go_enter Try.func40, Try.ntmps40
    go_wp2
    go_loopw [13] (fun vi wr => ∃ i : Nat, i ≤ l.length ∧ vi = .int .i64 i ∧ Hid (Below w.heap.size w wr) ∧ Hid (cmpTs (l.drop i) (l'.drop i) = res)) (fun vi _ => l.length - (intOf vi).toNat)
    case atStart => exact ⟨0, Nat.zero_le _, rfl, Lib.hid (Below.refl _ _), Lib.hid (by simpa using HRes.out)⟩
    case round =>
      obtain ⟨i, hi, rfl, hB, hS⟩ := hrel
      by_cases hlt : i < l.length
      · have hlt' : i < l'.length := HL.out ▸ hlt
        obtain ⟨pa, ca, x0, x1, x2, xk⟩ := HR1.out i hlt
        obtain ⟨pb, cb, y0, y1, y2, yk⟩ := HR2.out i hlt'
        have f1 := fun o => hB.out.cell (p := ⟨g1, o, none⟩) hg1
        have f2 := fun o => hB.out.cell (p := ⟨g2, o, none⟩) hg2
        rw [← f1] at x0 x1 x2; rw [← f2] at y0 y1 y2
        have k2 : ∀ o1 o2 : Obj, KeepT w ((wr.alloc o1).alloc o2) := fun o1 o2 => ((KeepT.of_below hB.out).trans (keepT_alloc _ o1)).trans (keepT_alloc _ o2)
        have HC := Lib.hid (fun o1 o2 => HS.out l[i] (List.getElem_mem hlt) l'[i] pa pb ca cb ((wr.alloc o1).alloc o2) (xk.keep (k2 o1 o2)) (yk.keep (k2 o1 o2)))
        have HD := cmp_drop l l' i hlt hlt'
        rw [hS.out] at HD
        have hgr1 : g1 < wr.heap.size := Nat.lt_of_lt_of_le hg1 hB.out.size
        have hgr2 : g2 < wr.heap.size := Nat.lt_of_lt_of_le hg2 hB.out.size
        have hlt1 : ((i : Int) < (l.length : Int)) := by omega
        clear f1 f2 xk yk k2 hS
        generalize l[i] = t at x0 x1 x2 HC HD
        generalize l'[i] = u at y0 y1 y2 HC HD
        simp only [tyV] at HC
        have HB := Lib.hid (fun o1 o2 => hB.out.trans ((((Below.refl wr.heap.size wr).alloc (Nat.le_refl _) o1).alloc (by simp) o2).mono hB.out.size)); clear hB
        by_cases hz : cmpT t u = 0
        · rw [hz] at HC
          have HD' := Lib.hid (show res = cmpTs (l.drop (i + 1)) (l'.drop (i + 1)) by rw [HD, hz]; rfl)
          clear HD hz
          go_wp2_with (go_at_call 19; refine (HC.out _ _).mono ?_; rintro e w2 ⟨rfl, hb2⟩; have HB2 := Lib.hid ((HB.out _ _).trans (hb2.mono (by simp; have := (HB.out (.cells #[] 0) (.cells #[] 0)).size; simp at this; omega))); clear hb2)
          refine ⟨⟨i + 1, by omega, by go_num, HB2, Lib.hid HD'.out.symm⟩, ?_⟩
          simp [intOf]; omega
        · have hz1 : (cmpT t u != 0) = true := by simpa using hz
          have hz2 : (cmpT t u == 0) = false := by simpa using hz
          have hq : cmpT t u = res := by rw [HD, orI, if_neg hz]
          rw [hq] at HC hz1 hz2
          clear HD HRes hq hz
          go_wp2_with (go_at_call 19; refine (HC.out _ _).mono ?_; rintro e w2 ⟨rfl, hb2⟩; have HB2 := Lib.hid ((HB.out _ _).trans (hb2.mono (by simp; have := (HB.out (.cells #[] 0) (.cells #[] 0)).size; simp at this; omega))); clear hb2)
          go_ret
          exact ⟨rfl, HB2.out⟩
      · obtain rfl : i = l.length := by omega
        have e1 : res = 0 := by
          have := hS.out
          rw [List.drop_length, HL.out, List.drop_length, cmpTs] at this
          exact this.symm
        subst e1
        clear HRes hS
        go_wp2
        go_ret
        exact ⟨rfl, hB.out⟩

set_option maxHeartbeats 2000000 in
theorem cmp_step (t : T) (H : ∀ k ∈ t.kids, CmpOK k) (hn : t.kids.length < 1152921504606846976) : CmpOK t := by
  intro t' a b c d w h h'
  have HC := Lib.hid (fun (W : World) (k : KeepT w W) (hl : t.kids.length = t'.kids.length) => cmpFunc_of t.kids t'.kids H a b c d W (h.keep k) (h'.keep k) hn hl)
  have HE := Lib.hid (cmpT_eq t t')
  have HB := Lib.hid (show ∀ o1 o2 : Obj, Below w.heap.size w ((w.alloc o1).alloc o2) from fun o1 o2 => ((Below.refl _ w).alloc (Nat.le_refl _) _).alloc (by simp) _)
  obtain ⟨hd, hhd⟩ : ∃ r, orI (sgn t.kind t'.kind) (orI (cmpL t.name.data.toList t'.name.data.toList) (sgn t.kids.length t'.kids.length)) = r := ⟨_, rfl⟩
  have HO := Lib.hid (fun (b : Nat) (W : World) h => by have := or_any b (sgn t.kind t'.kind) (cmpL t.name.data.toList t'.name.data.toList) (sgn t.kids.length t'.kids.length) W h; rw [hhd] at this; exact this)
  have HH := Lib.hid hhd
  clear H h h' hhd
  simp only [tyV]
  by_cases hz : hd = 0
  · subst hz
    have e : cmpT t t' = cmpTs t.kids t'.kids := heads_same HE.out HH.out
    rw [e]
    clear e HE
    go_enter Try.func19, Try.ntmps19
    go_wp2
    refine with_worldC (fun V => KeepT w V ∧ Below w.heap.size w V ∧ V.heap[w.heap.size]? = some (.cells #[.int .i64 t.kind, .string t.name, .slice a t.kids.length c] 29 (0, 0)) ∧ V.heap[w.heap.size + 1]? = some (.cells #[.int .i64 t'.kind, .string t'.name, .slice b t'.kids.length d] 29 (0, 0))) ⟨?_, HB.out _ _, ?_, ?_⟩ ?_
    · exact (keepT_alloc w _).trans (keepT_alloc _ _)
    · rw [Below.heap_alloc _ _ _ (by simp)]; exact alloc_new w _
    · have := alloc_new (w.alloc (.cells #[.int .i64 t.kind, .string t.name, .slice a t.kids.length c] 29)) (.cells #[.int .i64 t'.kind, .string t'.name, .slice b t'.kids.length d] 29)
      simpa using this
    rintro V ⟨hk, hb, v0, v1⟩
    obtain ⟨z0, z1, z2⟩ := three_cells v0
    obtain ⟨z3, z4, z5⟩ := three_cells v1
    have HK := Lib.hid hk; have HB := Lib.hid hb
    have al : Hid (∀ (p : Addr) (x : Value) (o : Obj), V.cell? p = some x → (V.alloc o).cell? p = some x) := Lib.hid fun p x o h => (((Below.refl V.heap.size V).alloc (Nat.le_refl _) o).cell (World.block_lt_of_cell? _ _ h)).trans h
    have l1 := (Array.getElem?_eq_some_iff.1 v1).1
    have l0 : w.heap.size < V.heap.size := by omega
    clear hk hb v0 v1
    go_region_held3 (fun V' => V'.cell? ⟨w.heap.size, 0, none⟩ = some (.int .i64 t.kind) ∧ V'.cell? ⟨w.heap.size, 1, none⟩ = some (.string t.name) ∧ V'.cell? ⟨w.heap.size, 2, none⟩ = some (.slice a t.kids.length c) ∧ V'.cell? ⟨w.heap.size + 1, 0, none⟩ = some (.int .i64 t'.kind) ∧ V'.cell? ⟨w.heap.size + 1, 1, none⟩ = some (.string t'.name) ∧ V'.cell? ⟨w.heap.size + 1, 2, none⟩ = some (.slice b t'.kids.length d)) (first | exact ⟨z0, z1, z2, z3, z4, z5⟩ | exact ⟨al.out _ _ _ z0, al.out _ _ _ z1, al.out _ _ _ z2, al.out _ _ _ z3, al.out _ _ _ z4, al.out _ _ _ z5⟩)
      (first
        | (go_at_call 38; refine (cmpInt_any _ _ _).mono ?_; rintro e w2 ⟨rfl, rfl⟩)
        | (go_at_call 39; refine (cmpStr_any _ _ _).mono ?_; rintro e w2 ⟨rfl, rfl⟩)
        | (go_at_call 37; refine (HO.out _ _ ?hh).mono ?_; (case hh => exact alloc_new _ _); rintro e w2 ⟨rfl, rfl⟩))
    all_goals
      go_wp2_with (go_at_call 40; refine (HC.out _ ?kk ?kl).mono ?_; (case kk => exact fun k cs fz h => keepT_alloc _ _ k cs fz (HK.out k cs fz h)); (case kl => exact len_of HH.out); rintro e w2 ⟨rfl, hb2⟩; have HB2 := Lib.hid hb2; clear hb2)
    all_goals go_ret
    all_goals exact ⟨rfl, (HB.out.trans (((Below.refl V.heap.size V).alloc (Nat.le_refl _) _).mono HB.out.size)).drew.trans (HB2.out.mono (by simp; omega))⟩
  · have hz1 : (hd != 0) = true := by simpa using hz
    have hz2 : (hd == 0) = false := by simpa using hz
    have e : cmpT t t' = hd := heads_other HE.out HH.out hz
    rw [e]
    clear e HE HC hz HH
    go_enter Try.func19, Try.ntmps19
    go_wp2
    refine with_worldC (fun V => KeepT w V ∧ Below w.heap.size w V ∧ V.heap[w.heap.size]? = some (.cells #[.int .i64 t.kind, .string t.name, .slice a t.kids.length c] 29 (0, 0)) ∧ V.heap[w.heap.size + 1]? = some (.cells #[.int .i64 t'.kind, .string t'.name, .slice b t'.kids.length d] 29 (0, 0))) ⟨?_, HB.out _ _, ?_, ?_⟩ ?_
    · exact (keepT_alloc w _).trans (keepT_alloc _ _)
    · rw [Below.heap_alloc _ _ _ (by simp)]; exact alloc_new w _
    · have := alloc_new (w.alloc (.cells #[.int .i64 t.kind, .string t.name, .slice a t.kids.length c] 29)) (.cells #[.int .i64 t'.kind, .string t'.name, .slice b t'.kids.length d] 29)
      simpa using this
    rintro V ⟨hk, hb, v0, v1⟩
    obtain ⟨z0, z1, z2⟩ := three_cells v0
    obtain ⟨z3, z4, z5⟩ := three_cells v1
    have HK := Lib.hid hk; have HB := Lib.hid hb
    have al : Hid (∀ (p : Addr) (x : Value) (o : Obj), V.cell? p = some x → (V.alloc o).cell? p = some x) := Lib.hid fun p x o h => (((Below.refl V.heap.size V).alloc (Nat.le_refl _) o).cell (World.block_lt_of_cell? _ _ h)).trans h
    have l1 := (Array.getElem?_eq_some_iff.1 v1).1
    have l0 : w.heap.size < V.heap.size := by omega
    clear hk hb v0 v1
    go_region_held3 (fun V' => V'.cell? ⟨w.heap.size, 0, none⟩ = some (.int .i64 t.kind) ∧ V'.cell? ⟨w.heap.size, 1, none⟩ = some (.string t.name) ∧ V'.cell? ⟨w.heap.size, 2, none⟩ = some (.slice a t.kids.length c) ∧ V'.cell? ⟨w.heap.size + 1, 0, none⟩ = some (.int .i64 t'.kind) ∧ V'.cell? ⟨w.heap.size + 1, 1, none⟩ = some (.string t'.name) ∧ V'.cell? ⟨w.heap.size + 1, 2, none⟩ = some (.slice b t'.kids.length d)) (first | exact ⟨z0, z1, z2, z3, z4, z5⟩ | exact ⟨al.out _ _ _ z0, al.out _ _ _ z1, al.out _ _ _ z2, al.out _ _ _ z3, al.out _ _ _ z4, al.out _ _ _ z5⟩)
      (first
        | (go_at_call 38; refine (cmpInt_any _ _ _).mono ?_; rintro e w2 ⟨rfl, rfl⟩)
        | (go_at_call 39; refine (cmpStr_any _ _ _).mono ?_; rintro e w2 ⟨rfl, rfl⟩)
        | (go_at_call 37; refine (HO.out _ _ ?hh).mono ?_; (case hh => exact alloc_new _ _); rintro e w2 ⟨rfl, rfl⟩))
    all_goals go_wp2
    all_goals go_ret
    all_goals exact ⟨rfl, (HB.out.trans (((Below.refl V.heap.size V).alloc (Nat.le_refl _) _).mono HB.out.size)).drew⟩
theorem cmp_ok {t : T} (h : Fits t) : CmpOK t := by
  induction h with
  | mk t h1 _ ih => exact cmp_step t ih h1
theorem compare_any {t t' : T} {v v' : Value} {w : World} (hf : Fits t) (h : TysAt w v t.kids) (h' : TysAt w v' t'.kids) :
    Calls Try.prog 19 #[tyV t v, tyV t' v'] w fun e w' => e = .returned (.int .i64 (cmpT t t')) ∧ Below w.heap.size w w' := by
  obtain ⟨a, c, rfl⟩ := h.shape
  obtain ⟨b, d, rfl⟩ := h'.shape
  exact cmp_ok hf t' a b c d w h h'

set_option maxHeartbeats 1000000 in
theorem same_any {t t' : T} {v v' : Value} {w : World} (hf : Fits t) (h : TysAt w v t.kids) (h' : TysAt w v' t'.kids) :
    Calls Try.prog 21 #[tyV t v, tyV t' v'] w fun e w' => e = .returned (.bool (cmpT t t' == 0)) ∧ Below w.heap.size w w' := by
  obtain ⟨a, c, rfl⟩ := h.shape
  obtain ⟨b, d, rfl⟩ := h'.shape
  have HC := Lib.hid (fun (W : World) (k : KeepT w W) => compare_any (w := W) hf (h.keep k) (h'.keep k))
  have HK := Lib.hid (show ∀ o1 o2 : Obj, KeepT w ((w.alloc o1).alloc o2) from fun o1 o2 => (keepT_alloc w o1).trans (keepT_alloc _ o2))
  have HB := Lib.hid (show ∀ o1 o2 : Obj, Below w.heap.size w ((w.alloc o1).alloc o2) from fun o1 o2 => ((Below.refl _ w).alloc (Nat.le_refl _) _).alloc (by simp) _)
  clear h h' hf
  simp only [tyV] at HC ⊢
  generalize cmpT t t' = q at *
  go_enter Try.func21, Try.ntmps21
  go_wp2_with (go_at_call 19; refine (HC.out _ ?kk).mono ?_; (case kk => exact HK.out _ _); rintro e w2 ⟨rfl, hb2⟩; have HB2 := Lib.hid hb2; clear hb2)
  go_ret
  exact ⟨rfl, (HB.out _ _).trans (HB2.out.mono (by simp; omega))⟩
end Go.Proofs.Yteoelcefjjmjiaa
