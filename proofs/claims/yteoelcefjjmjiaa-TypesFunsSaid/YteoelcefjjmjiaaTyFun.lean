/- types.Fun: a function of many. -/
import Derived.Test.YteoelcefjjmjiaaTyBack
import Derived.Stop.RegionWithIn
import Derived.IntWalk
namespace Go.Proofs.Yteoelcefjjmjiaa
open Go.RowKit
attribute [local go_sem] Oper.semAt_some

/-- The function from all of a row to what is behind. -/
def funT (l : List T) (x : T) : T := l.foldr T.fn x
theorem funT_fold (l : List T) (x : T) : (List.range l.length).reverse.foldl (fun b i => T.fn (l.getD i noT) b) x = funT l x := by
  rw [List.foldl_reverse]
  unfold funT
  have : l = (List.range l.length).map (fun i => l.getD i noT) := by
    apply List.ext_getElem
    · simp
    · intro i h1 h2; simp [List.getD, h1]
  conv => rhs; rw [this]
  rw [List.foldr_map]
theorem fold_snoc (l : List T) (x : T) (pre : List Nat) (i : Nat) : (pre ++ [i]).foldl (fun b i => T.fn (l.getD i noT) b) x = T.fn (l.getD i noT) (pre.foldl (fun b i => T.fn (l.getD i noT) b) x) := by simp

theorem TyIn.two {ok : Nat → Prop} {w : World} {t u : T} {a b : Option Addr} {c d g : Nat} (hg : g = w.heap.size) (hok : ok g) (h : TyIn ok w t (.slice a t.kids.length c)) (h' : TyIn ok w u (.slice b u.kids.length d)) :
    TyIn ok (w.alloc (.cells #[.int .i64 t.kind, .string t.name, .slice a t.kids.length c, .int .i64 u.kind, .string u.name, .slice b u.kids.length d] 29)) (.fn t u) (.slice (some ⟨g, 0, none⟩) 2 2) := by
  subst hg
  have kp : ∀ {v : T} {z : Value} (o : Obj), TyIn ok w v z → TyIn ok (w.alloc o) v z := fun {v z} o h => h.keep fun k cs fz _ hh => (Below.heap_alloc w o k (Array.getElem?_eq_some_iff.1 hh).1).trans hh
  refine .row (.fn t u) w.heap.size 2 _ (0, 0) (fun i => if i = 0 then .slice a t.kids.length c else .slice b u.kids.length d) hok (alloc_new w _) (Nat.le_refl _) ?_ ?_
  · intro i hi
    match i, hi with
    | 0, _ => exact ⟨rfl, rfl, rfl⟩
    | 1, _ => exact ⟨rfl, rfl, rfl⟩
    | n + 2, hi => exact absurd hi (by simp [T.kids])
  · intro i hi
    match i, hi with
    | 0, _ => exact kp _ h
    | 1, _ => exact kp _ h'
    | n + 2, hi => exact absurd hi (by simp [T.kids])
theorem heap_set3 {w : World} {B k : Nat} (v0 v1 v2 : Value) (hk : k ≠ B) : (((w.setCell ⟨B, 0, none⟩ v0).setCell ⟨B, 1, none⟩ v1).setCell ⟨B, 2, none⟩ v2).heap[k]? = w.heap[k]? := by
  rw [Below.heap_setCell _ _ _ _ hk, Below.heap_setCell _ _ _ _ hk, Below.heap_setCell _ _ _ _ hk]
theorem size_set3 {w : World} {B : Nat} (v0 v1 v2 : Value) : (((w.setCell ⟨B, 0, none⟩ v0).setCell ⟨B, 1, none⟩ v1).setCell ⟨B, 2, none⟩ v2).heap.size = w.heap.size := by simp only [World.size_setCell]
theorem others_set3 {w : World} {B : Nat} (v0 v1 v2 : Value) : KeepsOthers w (((w.setCell ⟨B, 0, none⟩ v0).setCell ⟨B, 1, none⟩ v1).setCell ⟨B, 2, none⟩ v2) := ((KeepsOthers.setCell _ _ _).trans (KeepsOthers.setCell _ _ _)).trans (KeepsOthers.setCell _ _ _)
theorem below_set3 {n : Nat} {w W : World} {B : Nat} (h : Below n w W) (hB : n ≤ B) (v0 v1 v2 : Value) : Below n w (((W.setCell ⟨B, 0, none⟩ v0).setCell ⟨B, 1, none⟩ v1).setCell ⟨B, 2, none⟩ v2) :=
  ((h.setCell (p := ⟨B, 0, none⟩) hB v0).setCell (p := ⟨B, 1, none⟩) hB v1).setCell (p := ⟨B, 2, none⟩) hB v2
theorem below_others {X Y : World} (h : Below X.heap.size X Y) : KeepsOthers X Y := ⟨h.size, fun k _ hk _ => (h.block k (Array.getElem?_eq_some_iff.1 hk).1).trans hk⟩

theorem new_a (w : World) (o1 o2 o3 : Obj) : (((w.alloc o1).alloc o2).alloc o3).heap[w.heap.size]? = some o1 := by
  rw [Below.heap_alloc _ _ _ (by simp; omega), Below.heap_alloc _ _ _ (by simp)]; exact alloc_new w _
set_option maxRecDepth 100000 in
set_option maxHeartbeats 4000000 in
theorem tfun_any (l : List T) (x : T) (v : Value) (w : World) (hs : tsizes l + tsize x ≤ 100000000) (hv : TysAt w v (l ++ [x])) :
    Calls Try.prog 24 #[v] w fun e w' => (∃ a c, e = .returned (tyV (funT l x) (.slice a (funT l x).kids.length c)) ∧ TyIn (fun k => w.heap.size < k) w' (funT l x) (.slice a (funT l x).kids.length c)) ∧ Below w.heap.size w w' := by
  obtain ⟨va, vc, rfl⟩ := hv.shape
  have hlen : (l ++ [x]).length = l.length + 1 := by simp
  have hll := len_sizes l
  obtain ⟨g, pa, ca, hg, hrow, hkids⟩ := hv.rowC
  have hg : g < w.heap.size := hg.resolve_left (by simp)
  obtain ⟨⟨hva, hcap⟩, x0, x1, x2⟩ := hrow l.length (by simp)
  subst hva
  have hx := hkids l.length (by simp)
  have ex : (l ++ [x]).getD l.length noT = x := by simp [List.getD]
  rw [ex] at x0 x1 x2 hx
  have HROW := Lib.hid hrow; have HKIDS := Lib.hid hkids
  have HO := Lib.hid (fun (W : World) (k : KeepT w W) => own_any (t := x) (w := W) (by omega) (hx.keep k))
  clear hrow hkids hx hv ex
  rw [hlen]
  rw [hlen] at hcap
  refine (callsIn_wide (n := 3)).1 ?_
  refine callsIn_of_wp_marks Try.func24 rfl trivial ?_ rfl
  simp only [Try.ntmps24, List.size_toArray, List.length_cons, List.length_nil, Nat.reduceAdd, Nat.reduceSub, Array.replicate_succ, Array.replicate_zero, List.push_toArray, List.append_toArray, List.nil_append, List.cons_append]
  have h0 : (((l.length + 1 : Nat) : Int) == 0) = false := by simp; omega
  have h0' : (((l.length : Int) + 1) == 0) = false := by simp; omega
  have h1 : ((l.length + 1 : Nat) : Int) - 1 = (l.length : Int) := by omega
  have h2 : IntKind.i64.wrap (((l.length + 1 : Nat) : Int) - 1) = (l.length : Int) := by rw [h1]; exact IntWalk.i64_in _ (by omega)
  have HB1 := Lib.hid (fun (o : Obj) => (Below.refl _ w).alloc (Nat.le_refl _) o)
  gi_wp2_with (refine ⟨trivial, ?_⟩; gi_at_call 31; refine (callsIn_wide.2 (HO.out _ (keepT_alloc w _))).mono ?_)
  rintro e w1 ⟨⟨a1, c1, rfl, r1⟩, r2⟩
  have HI1 := Lib.hid (r1.lt.mono (ok' := fun k => ((k ≠ w.heap.size ∧ k ≠ w1.heap.size) ∧ w.heap.size < k) ∧ k < w1.heap.size) fun k hk => by have := hk.1; have := hk.2; simp at *; omega)
  have HZ1 := Lib.hid ((r2.block w.heap.size (by simp)).trans (alloc_new w _))
  have HB2 := Lib.hid ((HB1.out _).trans (r2.mono (by simp)))
  have hw1 : w.heap.size < w1.heap.size := (Array.getElem?_eq_some_iff.1 HZ1.out).1
  clear r1 r2 HB1 HO x0 x1 x2
  simp only [tyV]
  gi_wp2_with (refine ⟨trivial, ?_⟩; gi_at_call 42; refine (callsIn_wide.2 (backwardT_any _ _ _ _)).mono ?_; rintro e1 w2 ⟨rfl, rfl⟩)
  have q4 := (Below.heap_alloc (w1.alloc (.cells #[.int .i64 x.kind, .string x.name, .slice a1 x.kids.length c1] 29)) (.cells #[.slice (some ⟨g, 0, none⟩) l.length vc] 27) w1.heap.size (by simp)).trans (alloc_new w1 _)
  have q7 := alloc_new (w1.alloc (.cells #[.int .i64 x.kind, .string x.name, .slice a1 x.kids.length c1] 29)) (.cells #[.slice (some ⟨g, 0, none⟩) l.length vc] 27)
  have qb : Below w1.heap.size w1 ((w1.alloc (.cells #[.int .i64 x.kind, .string x.name, .slice a1 x.kids.length c1] 29)).alloc (.cells #[.slice (some ⟨g, 0, none⟩) l.length vc] 27)) := ((Below.refl _ w1).alloc (Nat.le_refl _) _).alloc (by simp) _
  have hsz : ((w1.alloc (.cells #[.int .i64 x.kind, .string x.name, .slice a1 x.kids.length c1] 29)).alloc (.cells #[.slice (some ⟨g, 0, none⟩) l.length vc] 27)).heap.size = w1.heap.size + 1 + 1 := by simp
  obtain ⟨W0, hW0⟩ : ∃ W0, (w1.alloc (.cells #[.int .i64 x.kind, .string x.name, .slice a1 x.kids.length c1] 29)).alloc (.cells #[.slice (some ⟨g, 0, none⟩) l.length vc] 27) = W0 := ⟨_, rfl⟩
  rw [hW0] at q4 q7 qb hsz ⊢
  simp only [World.size_alloc] at q7
  clear hW0
  have hIn := HI1.out.keep (fun k _ _ hk hh => (qb.block k hk.2).trans hh)
  have hz0 := (qb.block _ hw1).trans HZ1.out
  have hB0 := HB2.out.trans (qb.mono (Nat.le_of_lt hw1))
  have hc7 : W0.cell? ⟨w1.heap.size + 1, 0, none⟩ = some (.slice (some ⟨g, 0, none⟩) l.length vc) := by simp [World.cell?, q7]
  have hget : ∀ i, i < l.length → (l ++ [x]).getD i noT = l.getD i noT := fun i hi => by simp [List.getD, List.getElem?_append_left hi]
  have hr0 : RowC W0 (some ⟨g, 0, none⟩) g vc l pa ca := fun i hi => by
    obtain ⟨f1, f2, f3, f4⟩ := HROW.out i (by simp; omega)
    rw [hget i hi] at f2 f3 f4
    exact ⟨⟨rfl, by omega⟩, (hB0.cell (p := ⟨g, i * 3, none⟩) hg).trans f2, (hB0.cell (p := ⟨g, i * 3 + 1, none⟩) hg).trans f3, (hB0.cell (p := ⟨g, i * 3 + 2, none⟩) hg).trans f4⟩
  have HKI : Hid (∀ i, i < l.length → TysAt w (.slice (pa i) (l.getD i noT).kids.length (ca i)) (l.getD i noT).kids ∧ tsize (l.getD i noT) ≤ 1000000000) := Lib.hid fun i hi => by
    have := HKIDS.out i (by simp; omega)
    rw [hget i hi] at this
    refine ⟨this, ?_⟩
    have e : l.getD i noT = l[i] := by simp [List.getD, hi]
    rw [e]
    have := size_mem (List.getElem_mem hi); omega
  clear HKIDS HROW hget qb
  obtain ⟨b4, hb4⟩ : ∃ b, w1.heap.size = b := ⟨_, rfl⟩
  rw [hb4] at q4 q7 hsz hIn hc7 hw1 ⊢
  clear hb4 HI1 HZ1 HB2
  refine range_told (n := 3) (σ := T) (by omega) (gf := 48) (lb := #[.pointer (some ⟨b4 + 1, 0, none⟩)]) rfl (enters_of Try.func48 (by kernel_rfl) rfl)
    (backT_told 2 (by omega) l (by omega) (some ⟨g, 0, none⟩) vc g (b4 + 1) pa ca W0 hc7 hr0)
    (fun k hk => by rcases hk with rfl | rfl <;> omega) (Below.refl _ _) (fun x => rfl)
    (fun y pre X => ((∃ p n, X.heap[b4]? = some (.cells #[.int .i64 y.kind, .string y.name, .slice p y.kids.length n] 29 (0, 0)) ∧ TyIn (fun k => (k ≠ w.heap.size ∧ k ≠ b4) ∧ w.heap.size < k) X y (.slice p y.kids.length n)) ∧ X.heap[w.heap.size]? = some (.cells #[.int .i64 0, .string ⟨#[]⟩, .slice none 0 0] 29 (0, 0))) ∧ y = pre.foldl (fun b i => T.fn (l.getD i noT) b) x ∧ b4 + 1 < X.heap.size ∧ Below w.heap.size w X)
    (fun _ _ => False)
    (fun _ k => k = b4)
    ?hI ?hIx ?hT ⟨x, ⟨⟨a1, c1, q4, hIn.mono fun k hk => hk.1⟩, hz0⟩, rfl, by omega, hB0⟩
    (fun i a' W => ∃ b6, (i < l.length ∧ b4 + 1 < b6 ∧ W.heap[b6]? = some (.cells #[.int .i64 (l.getD i noT).kind, .string (l.getD i noT).name, .slice (pa i) (l.getD i noT).kids.length (ca i)] 29 (0, 0))) ∧ a' = { tmps := #[.slice (some ⟨g, 0, none⟩) (l.length + 1) vc, undef, .pointer (some ⟨w.heap.size, 0, none⟩), .int .i64 (l.length : Int), .pointer (some ⟨b4, 0, none⟩), undef, .pointer (some ⟨b6, 0, none⟩), .slice (some ⟨g, 0, none⟩) (l.length + 1) vc, .int .i64 ((l.length : Int) + 1), .bool false, undef, .slice (some ⟨g, 0, none⟩) (l.length + 1) vc, .int .i64 ((l.length : Int) + 1), .int .i64 (l.length : Int), .slice (some ⟨g, 0, none⟩) (l.length + 1) vc, .int .i64 (l.length : Int), .pointer (some ⟨g, l.length * 3, none⟩), .agg #[.int .i64 x.kind, .string x.name, .slice (pa l.length) x.kids.length (ca l.length)], .agg #[.int .i64 x.kind, .string x.name, .slice a1 x.kids.length c1], .slice (some ⟨g, 0, none⟩) (l.length + 1) vc, .int .i64 (l.length : Int), .slice (some ⟨g, 0, none⟩) l.length vc, .func (.func 48) #[] #[.pointer (some ⟨b4 + 1, 0, none⟩)], .int .i64 (i : Int), .agg #[.int .i64 (l.getD i noT).kind, .string (l.getD i noT).name, .slice (pa i) (l.getD i noT).kids.length (ca i)], undef, undef, undef, undef, undef, undef], defers := [] })
    ?hAx ?assign ?body ?done ?stop
  case hI =>
    rintro y pre X Y row ⟨⟨⟨r1, o1, hL1, hL2⟩, hb⟩, hx, hs', hB⟩ hgr hrr
    have tr : ∀ r, row = some r → ∃ o : Obj, X.heap[r]? = some o ∧ o.isCells = false := fun r e => (hrr r e).2
    exact ⟨⟨⟨r1, o1, block_kept hL1 hgr tr, tyIn_kept hL2 hgr tr⟩, block_kept hb hgr tr⟩, hx, Nat.lt_of_lt_of_le hs' hgr.size, ownFrom_below (β := Unit) (by have := hB0.size; omega) (by omega) () X Y row hB hgr hrr⟩
  case hIx => exact fun _ _ _ _ h => h.elim
  case hT =>
    rintro y pre X k ⟨⟨⟨r1, o1, hL1, _⟩, _⟩, _⟩ rfl
    exact ⟨(Array.getElem?_eq_some_iff.1 hL1).1, fun hk => by rcases hk with hk | hk <;> omega⟩
  case hAx =>
    rintro i a' _ X Y row ⟨b6, ⟨h0, h1, h2⟩, h3⟩ hgr hrr
    exact ⟨b6, ⟨h0, h1, block_kept h2 hgr fun r e => (hrr r e).2⟩, h3⟩
  case assign =>
    rintro ly y pre i X C ⟨⟨⟨r1, o1, hL1, _⟩, _⟩, hx, hs', hB⟩ hex hC
    dsimp only [encT]
    have HEX := Lib.hid hex; clear hex
    gi_wp2
    exact hC _ _ ((KeepsOthers.alloc X _).from _) ((Below.refl _ X).alloc (Nat.le_refl _) _) ⟨X.heap.size, ⟨HEX.out, hs', alloc_new X _⟩, rfl⟩
  case body =>
    rintro ly y pre i a' X ⟨⟨⟨r1, o1, hL1, hL2⟩, hb⟩, hx, hs', hB⟩ hlen ⟨b6, ⟨hi, hb6, hbx⟩, rfl⟩
    obtain ⟨y0, y1, y2⟩ := three_cells hL1
    obtain ⟨x0, x1, x2⟩ := three_cells hbx
    have hT := (HKI.out i hi).1.keep (KeepT.of_below hB)
    have HO := Lib.hid (fun (W : World) (k : KeepT X W) => own_any (t := l.getD i noT) (w := W) (HKI.out i hi).2 (hT.keep k))
    have l4 := (Array.getElem?_eq_some_iff.1 hL1).1
    have HL1 := Lib.hid hL1; have HL2 := Lib.hid hL2; have Hb := Lib.hid hb; have HX := Lib.hid hx; have HB := Lib.hid hB
    obtain ⟨t, ht⟩ : ∃ t, l.getD i noT = t := ⟨_, rfl⟩
    have HT := Lib.hid ht
    rw [ht] at x0 x1 x2 HO ⊢
    clear hT hL1 hL2 hb hx hB ht hbx hr0 hc7 q4 q7 hz0 hIn
    simp only [tyV] at HO
    gi_wp2
    gi_region_with (first
      | (refine ⟨trivial, ?_⟩; gi_at_call 31; refine (CallsIn.inRound ly (callsIn_wide.2 (HO.out X.drew (fun _ _ _ h => h)))).mono ?_; rintro e W2 ⟨⟨a2, c2, rfl, g1⟩, g2⟩; obtain ⟨z0, z1, z2⟩ := three_cells ((g2.block b4 l4).trans HL1.out); have f0 := Lib.frozen_of_heap ((g2.block b4 l4).trans HL1.out) 0; have f1 := Lib.frozen_of_heap ((g2.block b4 l4).trans HL1.out) 1; have f2 := Lib.frozen_of_heap ((g2.block b4 l4).trans HL1.out) 2; have G1 := Lib.hid g1; have G2 := Lib.hid g2; have l42 := Nat.lt_of_lt_of_le l4 g2.size; clear g1 g2))
    all_goals
      gi_wp2
      have zs := set3_block ((G2.out.block b4 l4).trans HL1.out) (.int .i64 3) (.string ⟨#[]⟩) (.slice (some ⟨W2.heap.size, 0, none⟩) 2 2)
      have zn := size_set3 (w := W2) (B := b4) (.int .i64 3) (.string ⟨#[]⟩) (.slice (some ⟨W2.heap.size, 0, none⟩) 2 2)
      have zo := others_set3 (w := W2) (B := b4) (.int .i64 3) (.string ⟨#[]⟩) (.slice (some ⟨W2.heap.size, 0, none⟩) 2 2)
      have zh := fun k hk => heap_set3 (w := W2) (B := b4) (k := k) (.int .i64 3) (.string ⟨#[]⟩) (.slice (some ⟨W2.heap.size, 0, none⟩) 2 2) hk
      have g2s : X.heap.size ≤ W2.heap.size := G2.out.size
      have zb := below_set3 ((HB.out.drew).trans (G2.out.mono HB.out.size)) (Nat.le_of_lt hw1) (.int .i64 3) (.string ⟨#[]⟩) (.slice (some ⟨W2.heap.size, 0, none⟩) 2 2)
      obtain ⟨Z, hZ⟩ : ∃ Z, (((W2.setCell ⟨b4, 0, none⟩ (.int .i64 3)).setCell ⟨b4, 1, none⟩ (.string ⟨#[]⟩)).setCell ⟨b4, 2, none⟩ (.slice (some ⟨W2.heap.size, 0, none⟩) 2 2)) = Z := ⟨_, rfl⟩
      rw [hZ] at zs zn zo zb ⊢
      simp only [hZ] at zh
      clear hZ
      have hin : TyIn (fun k => (k ≠ w.heap.size ∧ k ≠ b4) ∧ w.heap.size < k) (Z.alloc (.cells #[.int .i64 t.kind, .string t.name, .slice a2 t.kids.length c2, .int .i64 y.kind, .string y.name, .slice r1 y.kids.length o1] 29)) (.fn t y) (.slice (some ⟨W2.heap.size, 0, none⟩) 2 2) := by
        refine TyIn.two zn.symm ⟨⟨by omega, by omega⟩, by omega⟩ ?_ ?_
        · exact (G1.out.keep fun k _ _ hk hh => (zh k (by have : X.heap.size ≤ k := hk; omega)).trans hh).mono fun k hk => by have : X.heap.size ≤ k := hk; omega
        · refine (HL2.out.lt.keep ?_).mono (fun k hk => hk.1)
          intro k cs fz hk hh
          exact (zh k hk.1.1.2).trans ((G2.out.block k hk.2).trans hh)
      refine ⟨((KeepsOthers.drew X).trans ((below_others G2.out).trans (zo.trans (KeepsOthers.alloc _ _)))).from _, fun k hk hkX => (Below.heap_alloc Z _ k (by omega)).trans ((zh k hk).trans (G2.out.block k hkX)), .fn t y, ⟨⟨some ⟨W2.heap.size, 0, none⟩, 2, (Below.heap_alloc Z _ _ (by omega)).trans zs, hin⟩, (Below.heap_alloc Z _ _ (by omega)).trans ((zh _ (by omega)).trans ((G2.out.block _ (by show w.heap.size < X.heap.size; omega)).trans Hb.out))⟩, ?_, by simp; omega, zb.alloc (by omega) _⟩
      rw [fold_snoc, ← HX.out, HT.out]
  case done =>
    rintro D y xs W hD rfl ⟨⟨⟨r1, o1, hL1, hL2⟩, hb⟩, hx, hs', hB⟩ hK
    have HX := Lib.hid (hx.trans (funT_fold l x))
    obtain ⟨y0, y1, y2⟩ := three_cells hL1
    obtain ⟨z0, z1, z2⟩ := three_cells hb
    have f0 := Lib.frozen_of_heap hb 0
    have f1 := Lib.frozen_of_heap hb 1
    have f2 := Lib.frozen_of_heap hb 2
    have HL2 := Lib.hid hL2; have Hb := Lib.hid hb; have HB := Lib.hid hB; have HK := Lib.hid hK
    have lw := (Array.getElem?_eq_some_iff.1 hb).1
    clear hL1 hL2 hb hx hB hr0 hc7 q4 q7 hz0 hIn hK
    gi_wp2
    have zs := set3_block Hb.out (.int .i64 y.kind) (.string y.name) (.slice r1 y.kids.length o1)
    have zh := fun k hk => heap_set3 (w := W) (B := w.heap.size) (k := k) (.int .i64 y.kind) (.string y.name) (.slice r1 y.kids.length o1) hk
    have zb := below_set3 HB.out (Nat.le_refl _) (.int .i64 y.kind) (.string y.name) (.slice r1 y.kids.length o1)
    obtain ⟨Z, hZ⟩ : ∃ Z, (((W.setCell ⟨w.heap.size, 0, none⟩ (.int .i64 y.kind)).setCell ⟨w.heap.size, 1, none⟩ (.string y.name)).setCell ⟨w.heap.size, 2, none⟩ (.slice r1 y.kids.length o1)) = Z := ⟨_, rfl⟩
    rw [hZ] at zs zb ⊢
    simp only [hZ] at zh
    clear hZ
    have hKZ := (zh D (by omega)).trans HK.out
    have turn : ∀ r, some D = some r → ∃ o : Obj, Z.heap[r]? = some o ∧ o.isCells = false := fun r e => by cases e; exact ⟨_, hKZ, rfl⟩
    have ys := block_kept zs (grownBy_putObj' Z D (.deferred none)) turn
    have yB := zb.trans (belowK_b (w := w) (Nat.le_refl _) Z D _ (.deferred none) (by omega) hKZ rfl rfl)
    obtain ⟨d0, d1, d2⟩ := three_cells ys
    have hX := tyIn_kept (HL2.out.keep (fun k _ _ hk ho => (zh k hk.1.1).trans ho)) (grownBy_putObj' Z D (.deferred none)) turn
    refine ⟨by simp, .inl ⟨_, _, rfl, run_takeDeferred hKZ, ?_⟩⟩
    refine ⟨tyV y (.slice r1 y.kids.length o1), by simp [results, Try.results24, go_sem, tyV, d0, d1, d2], ?_, yB⟩
    rw [← HX.out]
    exact ⟨r1, o1, rfl, hX.mono fun k hk => hk.2⟩
  case stop => exact fun D pre W hD hS h hK => h.elim
end Go.Proofs.Yteoelcefjjmjiaa
