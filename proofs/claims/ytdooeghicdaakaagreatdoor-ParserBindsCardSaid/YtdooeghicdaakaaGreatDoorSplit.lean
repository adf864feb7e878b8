import Derived.Test.YtdooeghicdaakaaGreatDoorIter
namespace Go.Proofs.YtdooeghicdaakaaGreatDoor
open Go.RowKit
attribute [local go_sem] Oper.semAt_some

theorem Tryz.info52 : (Tryz.prog.info? 52).map (fun i => (i.zero, i.size, i.bytes)) = some (some (.agg #[.int .i64 0, .int .i64 0, .string ⟨#[]⟩, .int .i64 0]), 4, 40) := by kernel_rfl

def tokCells (s : ByteArray) (t : Tok) : List Value := [.int .i64 t.kind, .int .i64 t.pos, .string ((s.extract t.pos s.size).extract 0 t.len), .int .i64 t.num]
def rowOf (s : ByteArray) (q : List Tok) : List Value := q.flatMap (tokCells s)
theorem rowOf_snoc (s : ByteArray) (q : List Tok) (t : Tok) : rowOf s (q ++ [t]) = rowOf s q ++ tokCells s t := by simp [rowOf]

/-- What 'Split' hands back. -/
def SplitPost (s : ByteArray) (aL : Addr) (ts : List Tok) (er : Option Nat) (w : World) (e : Ending) (W : World) : Prop :=
  Below w.heap.size w W ∧ ((er = none ∧ ∃ v, e = .returned (.tuple #[v, .nilIface]) ∧ W.ownsRow w.heap.size 52 4 v ts.length (rowOf s ts)) ∨
    (∃ p b, er = some p ∧ e = .returned (.tuple #[.slice none 0 0, errVal b]) ∧ AtBlock W b p (errL aL)))

def itemCells (s : ByteArray) : Item → Array Value
  | .inl t => (tokCells s t).toArray
  | .inr _ => #[.int .i64 0, .int .i64 0, .string ⟨#[]⟩, .int .i64 0]
def itemErr : Item → Value
  | .inl _ => .nilIface
  | .inr r => errVal r.2

theorem row_kept {W W' : World} {row : Option Nat} {base : Nat} {e : TypeId} {size : Nat} {v : Value} {n : Nat} {xs : List Value} (h : W.ownsRow base e size v n xs) (hg : W.grownBy W' row)
    (hr : ∀ r, row = some r → ∃ o : Obj, W.heap[r]? = some o ∧ o.isCells = false) : W'.ownsRow base e size v n xs := by
  refine h.kept hg ?_
  rcases h.2 with ⟨rfl, _⟩ | ⟨g, cap, cur, rfl, _, hgb, _⟩
  · exact .inl rfl
  · refine .inr fun e' => ?_
    obtain ⟨o, ho, hc⟩ := hr g (by simpa [Value.ownBlock] using e'.symm)
    rw [hgb] at ho; cases ho; cases hc
theorem block_kept {W W' : World} {row : Option Nat} {b : Nat} {c : Array Value} {t : TypeId} {m : Nat × Nat} (h : W.heap[b]? = some (.cells c t m)) (hg : W.grownBy W' row)
    (hr : ∀ r, row = some r → ∃ o : Obj, W.heap[r]? = some o ∧ o.isCells = false) : W'.heap[b]? = some (.cells c t m) := by
  refine (hg.block b (Array.getElem?_eq_some_iff.1 h).1 fun e => ?_).trans h
  obtain ⟨o, ho, hc⟩ := hr b e.symm
  rw [h] at ho; cases ho; cases hc
theorem exI_kept {W W' : World} {row : Option Nat} {v : Value} {x : Item} (h : ExI v x W) (hg : W.grownBy W' row)
    (hr : ∀ r, row = some r → ∃ o : Obj, W.heap[r]? = some o ∧ o.isCells = false) : ExI v x W' := by
  cases x with
  | inl t => trivial
  | inr r => exact block_kept h hg hr
theorem row_slice {W : World} {base : Nat} {e : TypeId} {size : Nat} {v : Value} {n : Nat} {xs : List Value} (h : W.ownsRow base e size v n xs) : ∃ a k c, v = .slice a k c := by
  rcases h.2 with ⟨rfl, _⟩ | ⟨g, cap, _, rfl, _⟩
  · exact ⟨_, _, _, rfl⟩
  · exact ⟨_, _, _, rfl⟩
theorem cell_four_new (w : World) (a b c d : Value) (t : TypeId) : ∀ j u, [a, b, c, d][j]? = some u → (w.alloc (.cells #[a, b, c, d] t)).cell? ((⟨w.heap.size, 0, none⟩ : Addr).add j) = some u := by
  intro j u hu
  have hadd : (⟨w.heap.size, 0, none⟩ : Addr).add j = ⟨w.heap.size, j, none⟩ := by unfold Addr.add; split <;> simp_all
  rw [hadd]
  have := World.alloc_heap_new w (.cells #[a, b, c, d] t)
  simp only [World.cell?, this]
  match j, hu with
  | 0, hu => simpa using hu
  | 1, hu => simpa using hu
  | 2, hu => simpa using hu
  | 3, hu => simpa using hu
  | n + 4, hu => simp at hu
theorem map_inl_inj {q ts : List Tok} (h : (q.map Sum.inl : List Item) = ts.map .inl) : q = ts := by
  induction q generalizing ts with
  | nil => cases ts with
    | nil => rfl
    | cons a b => simp at h
  | cons a r ih => cases ts with
    | nil => simp at h
    | cons b c => simp at h; rw [h.1, ih (by simpa using h.2)]
theorem map_inl_no {q : List Tok} {ts : List Item} {r : Nat × Nat} (h : (q.map Sum.inl : List Item) = ts ++ [.inr r]) : False := by
  have : (Sum.inr r : Item) ∈ (q.map Sum.inl : List Item) := by rw [h]; simp
  simp at this

theorem at_ne {X : World} {b p : Nat} {e : Value} {B : Nat} {t : TypeId} {v : Value} (h : AtBlock X b p e) (k : Boxed X B t v) : b ≠ B := by
  rintro rfl
  have := (show X.heap[b]? = _ from h).symm.trans (show X.heap[b]? = _ from k)
  simp at this

set_option maxRecDepth 100000 in
set_option maxHeartbeats 4000000 in
theorem split_any (v : Value) (s : ByteArray) (hs : s.size ≤ 20000) (aL : Addr) (ts : List Tok) (er : Option Nat) (hr : Runs s.data.toList (skipTo s.data.toList 0) ts er) (w : World)
    (hv : BytesAt w v s) (hE : w.cell? ⟨2, 0, none⟩ = some (errL aL)) :
    Calls Tryz.prog 13 #[v] w (SplitPost s aL ts er w) := by
  obtain ⟨i0, hi, hz0, hz1, hz2⟩ := info_parts Tryz.info52
  have hg := World.block_lt_of_cell? _ _ hE
  refine (callsIn_wide (n := 3)).1 ?_
  refine callsIn_of_wp_marks Tryz.func13 rfl trivial ?_ rfl
  simp only [Tryz.ntmps13, List.size_toArray, List.length_cons, List.length_nil, Nat.reduceAdd, Nat.reduceSub, Array.replicate_succ, Array.replicate_zero, List.push_toArray, List.append_toArray, List.nil_append, List.cons_append]
  have hb3 : ∀ o1 o2 o3 : Obj, Below w.heap.size w (((w.alloc o1).alloc o2).alloc o3) := fun o1 o2 o3 => (((Below.refl _ w).alloc (Nat.le_refl _) _).alloc (by simp) _).alloc (by simp; omega) _
  have Hb3 := Lib.hid hb3; clear hb3
  gi_wp2_with (refine ⟨trivial, ?_⟩; gi_at_call 26; refine (callsIn_wide.2 (all_any v s _ (hv.later (Hb3.out _ _ _)) hs)).mono ?_; rintro e w' ⟨rfl, rfl⟩)
  have bR := ((Boxed.new w 46 (.slice none 0 0)).alloc (.cells #[.nilIface] 30)).alloc (.cells #[.slice none 0 0] 46) |>.alloc (.cells #[.string s] 9)
  have bE := ((Boxed.new (w.alloc (.cells #[.slice none 0 0] 46)) 30 .nilIface).alloc (.cells #[.slice none 0 0] 46)).alloc (.cells #[.string s] 9)
  have bL := (Boxed.new ((w.alloc (.cells #[.slice none 0 0] 46)).alloc (.cells #[.nilIface] 30)) 46 (.slice none 0 0)).alloc (.cells #[.string s] 9)
  have bT := Boxed.new (((w.alloc (.cells #[.slice none 0 0] 46)).alloc (.cells #[.nilIface] 30)).alloc (.cells #[.slice none 0 0] 46)) 9 (.string s)
  simp only [World.size_alloc] at bE bL bT
  have hB0 := (Hb3.out (.cells #[.slice none 0 0] 46) (.cells #[.nilIface] 30) (.cells #[.slice none 0 0] 46)).alloc (by simp; omega) (.cells #[.string s] 9)
  have hsz : ((((w.alloc (.cells #[.slice none 0 0] 46)).alloc (.cells #[.nilIface] 30)).alloc (.cells #[.slice none 0 0] 46)).alloc (.cells #[.string s] 9)).heap.size = w.heap.size + 4 := by simp
  obtain ⟨W0, hW0⟩ : ∃ W0, (((w.alloc (.cells #[.slice none 0 0] 46)).alloc (.cells #[.nilIface] 30)).alloc (.cells #[.slice none 0 0] 46)).alloc (.cells #[.string s] 9) = W0 := ⟨_, rfl⟩
  rw [hW0] at bR bE bL bT hB0 hsz ⊢
  clear hW0 Hb3
  have hE0 : W0.cell? ⟨2, 0, none⟩ = some (errL aL) := (hB0.cell (p := ⟨2, 0, none⟩) hg).trans hE
  refine range_told (n := 3) (σ := Value) (by omega) (gf := 43) (lb := #[.pointer (some ⟨w.heap.size + 1 + 1 + 1, 0, none⟩)]) rfl (enters_of Tryz.func43 (by kernel_rfl) rfl)
    (all1_told 2 (by omega) s hs (w.heap.size + 1 + 1 + 1) aL ts er hr W0 bT.cell hE0)
    (fun k hk => by rcases hk with rfl | rfl <;> omega) (Below.refl _ _) (fun x => by cases x <;> rfl)
    (fun u pre W => ((Boxed W (w.heap.size + 1 + 1) 46 u ∧ Boxed W w.heap.size 46 (.slice none 0 0)) ∧ (Boxed W (w.heap.size + 1) 30 .nilIface ∧ Boxed W (w.heap.size + 1 + 1 + 1) 9 (.string s))) ∧ ((∃ q, pre = q.map .inl ∧ W.ownsRow w.heap.size 52 4 u q.length (rowOf s q)) ∧ Below w.heap.size w W))
    (fun pre W => ∃ p b q, pre = q ++ [.inr (p, b)] ∧ ((Boxed W w.heap.size 46 (.slice none 0 0) ∧ Boxed W (w.heap.size + 1) 30 (errVal b)) ∧ AtBlock W b p (errL aL)) ∧ Below w.heap.size w W)
    (fun u k => k = w.heap.size + 1 + 1 ∨ u.ownBlock = some k)
    ?hI ?hIx ?hT ⟨.slice none 0 0, ⟨⟨bL, bR⟩, bE, bT⟩, ⟨[], rfl, World.ownsRow_nil _ _ _ _⟩, hB0⟩
    (fun x a' W => ∃ Bx, (w.heap.size + 1 + 1 + 1 < Bx ∧ W.heap[Bx]? = some (.cells (itemCells s x) 52 (0, 0))) ∧ ExI (errL aL) x W ∧ a' = { tmps := #[v, undef, .pointer (some ⟨w.heap.size, 0, none⟩), .pointer (some ⟨w.heap.size + 1, 0, none⟩), .pointer (some ⟨w.heap.size + 1 + 1, 0, none⟩), .pointer (some ⟨Bx, 0, none⟩), itemErr x, v, .func (.func 43) #[] #[.pointer (some ⟨w.heap.size + 1 + 1 + 1, 0, none⟩)], .agg (itemCells s x), itemErr x, undef, undef, undef, undef, undef, undef, undef, undef], defers := [] })
    ?hAx ?assign ?body ?done ?stop
  case hI => exact fun u => OwnFrom.and (OwnFrom.and (OwnFrom.and (Own.from (boxed_own _ _ _) _) (Own.from (boxed_own _ _ _) _)) (OwnFrom.and (Own.from (boxed_own _ _ _) _) (Own.from (boxed_own _ _ _) _))) (OwnFrom.and (fun pre X Y row ⟨q, hq, hrow⟩ hgr hrr => ⟨q, hq, row_kept hrow hgr (fun r e => (hrr r e).2)⟩) (ownFrom_below (Nat.le_refl _) (by omega)))
  case hIx => exact fun pre X Y row ⟨p, b, q, hq, ⟨⟨k1, k2⟩, k3⟩, k4⟩ hgr hrr => ⟨p, b, q, hq, ⟨⟨block_kept k1 hgr (fun r e => (hrr r e).2), block_kept k2 hgr (fun r e => (hrr r e).2)⟩, block_kept k3 hgr (fun r e => (hrr r e).2)⟩, ownFrom_below (β := Unit) (Nat.le_refl _) (by omega) () X Y row k4 hgr hrr⟩
  case hT =>
    rintro u pre X k ⟨⟨⟨b1, _⟩, _, b4⟩, ⟨q, _, hrow⟩, _⟩ ht
    rcases ht with rfl | ht
    · exact ⟨b1.lt, fun hk => by rcases hk with hk | hk <;> omega⟩
    · have hl := hrow.lt k ht
      refine ⟨hl.2, fun hk => ?_⟩
      rcases hk with rfl | rfl
      · exact b4.not_row (by decide) hrow ht.symm
      · omega
  case hAx => exact fun x a' _ X Y row ⟨Bx, ⟨k1, k2⟩, k3, k4⟩ hgr hrr => ⟨Bx, ⟨k1, block_kept k2 hgr (fun r e => (hrr r e).2)⟩, exI_kept k3 hgr (fun r e => (hrr r e).2), k4⟩
  case assign =>
    rintro l u pre x X C ⟨⟨⟨b1, b2⟩, b3, b4⟩, hq, hB⟩ hex hC
    cases x with
    | inl t =>
      dsimp only [encI, tokVal, tokV]
      gi_wp2
      exact hC _ _ ((KeepsOthers.alloc _ _).from _) ((Below.refl _ X).alloc (Nat.le_refl _) _) ⟨X.heap.size, ⟨b4.lt, World.alloc_heap_new X _⟩, trivial, rfl⟩
    | inr r =>
      dsimp only [encI, errVal, tokV]
      gi_wp2
      exact hC _ _ ((KeepsOthers.alloc _ _).from _) ((Below.refl _ X).alloc (Nat.le_refl _) _) ⟨X.heap.size, ⟨b4.lt, World.alloc_heap_new X _⟩, (Below.heap_alloc X _ _ (Array.getElem?_eq_some_iff.1 hex).1).trans hex, rfl⟩
  case body =>
    rintro l u pre x a' X ⟨⟨⟨b1, b2⟩, b3, b4⟩, ⟨q, rfl, hrow⟩, hB⟩ hlen ⟨Bx, ⟨hBx, hcx⟩, hex, rfl⟩
    have hsX := hB.size
    cases x with
    | inl t =>
      dsimp only [itemErr, itemCells, tokCells] at hcx ⊢
      have c1 := b1.cell
      have x0 : X.cell? ⟨Bx, 0, none⟩ = some (.int .i64 t.kind) := by simp [World.cell?, hcx]
      have x1 : X.cell? ⟨Bx, 1, none⟩ = some (.int .i64 t.pos) := by simp [World.cell?, hcx]
      have x2 : X.cell? ⟨Bx, 2, none⟩ = some (.string ((s.extract t.pos s.size).extract 0 t.len)) := by simp [World.cell?, hcx]
      have x3 : X.cell? ⟨Bx, 3, none⟩ = some (.int .i64 t.num) := by simp [World.cell?, hcx]
      clear hcx hex hE0
      simp only [List.length_map] at hlen
      gi_wp2_with (gi_at_builtin; refine wpListIn_append_own _ rfl _ _ 46 rfl w.heap.size 52 i0 (.agg #[.int .i64 0, .int .i64 0, .string ⟨#[]⟩, .int .i64 0]) 4 40 Tryz.underlying46 hi hz0 hz1 hz2 rfl (by decide) _ _ _ rfl (hrow.alloc _) ⟨X.heap.size, 0, none⟩ 1 1 (tokCells s t) rfl rfl (cell_four_new _ _ _ _ _ _) (by simp [tokCells, Value.oneCell']) (by unfold maxLen; omega) (by omega) (by simp; omega) ?_; intro v' w1 hown' hgrow _; obtain ⟨g', cap', rfl⟩ := ownsRow_succ hown'; obtain ⟨hv1, hv2, hr2, hk2, hb2⟩ := b1.appended (by decide) hrow hB.size (by omega) hown' hgrow; have hc1 := hv1.cell; have hf1 := hv1.frozen)
      refine ⟨hk2.from _, fun k hkT hkX => ?_, _, ⟨⟨hv2, ((b2.alloc _).kept hgrow (b2.not_row (by decide) hrow)).other (by omega) _⟩, ((b3.alloc _).kept hgrow (b3.not_row (by decide) hrow)).other (by omega) _, ((b4.alloc _).kept hgrow (b4.not_row (by decide) hrow)).other (by omega) _⟩, ⟨q ++ [t], by simp, ?_⟩, hB.trans hb2⟩
      · exact (Below.heap_setCell _ _ _ k (fun e => hkT (.inl e))).trans ((hgrow.block k (by simp; omega) (fun e => hkT (.inr e.symm))).trans (Below.heap_alloc X _ k hkX))
      · rw [rowOf_snoc, List.length_append]; exact hr2
    | inr r =>
      dsimp only [itemErr, itemCells, errVal] at hcx ⊢
      have c2 := b2.cell
      have f2 := b2.frozen
      have c3 := b3.cell
      have f3 := b3.frozen
      gi_wp2
      have n2 := at_ne hex b2
      have n3 := at_ne hex b3
      exact ⟨((KeepsOthers.setCell _ _ _).trans (KeepsOthers.setCell _ _ _)).from _, r.1, r.2, q.map .inl, rfl, ⟨⟨(b2.set _).other (by omega) _, (b3.other (by omega) _).set _⟩, (Below.heap_setCell _ _ _ _ n3).trans ((Below.heap_setCell _ _ _ _ n2).trans hex)⟩, (hB.setCell (p := ⟨w.heap.size, 0, none⟩) (Nat.le_refl _) _).setCell (p := ⟨w.heap.size + 1, 0, none⟩) (by simp) _⟩
  case done =>
    rintro D u xs W hD hS ⟨⟨⟨b1, b2⟩, b3, b4⟩, ⟨q, rfl, hrow⟩, hB⟩ hK
    have hS' : er = none ∧ q = ts := by
      rcases hS with ⟨e, h⟩ | ⟨p, b, e, h⟩
      · exact ⟨e, map_inl_inj h⟩
      · exact (map_inl_no h).elim
    obtain ⟨rfl, rfl⟩ := hS'
    obtain ⟨ua, un, uc, rfl⟩ := row_slice hrow
    have c1 := b1.cell
    have c2 := b2.cell
    have f2 := b2.frozen
    have c3 := b3.cell
    have f3 := b3.frozen
    gi_wp2
    have z2 := (b2.set (.slice ua un uc)).other (B' := w.heap.size + 1) (by omega) .nilIface
    have z3 := (b3.other (B' := w.heap.size) (by omega) (.slice ua un uc)).set .nilIface
    have hKZ := (Below.heap_setCell (W.setCell ⟨w.heap.size, 0, none⟩ (.slice ua un uc)) ⟨w.heap.size + 1, 0, none⟩ .nilIface D (by simp; omega)).trans ((Below.heap_setCell W ⟨w.heap.size, 0, none⟩ (.slice ua un uc) D (by simp; omega)).trans hK)
    have hrowZ : ((W.setCell ⟨w.heap.size, 0, none⟩ (.slice ua un uc)).setCell ⟨w.heap.size + 1, 0, none⟩ .nilIface).ownsRow w.heap.size 52 4 (.slice ua un uc) q.length (rowOf s q) :=
      (hrow.kept (grownBy_setCell' W w.heap.size (.slice ua un uc)) (.inr (b2.not_row (by decide) hrow).symm)).kept (grownBy_setCell' _ (w.heap.size + 1) .nilIface)
        (.inr ((b3.other (B' := w.heap.size) (by omega) (.slice ua un uc)).not_row (by decide) (hrow.kept (grownBy_setCell' W w.heap.size (.slice ua un uc)) (.inr (b2.not_row (by decide) hrow).symm))).symm)
    have hBZ := (hB.setCell (p := ⟨w.heap.size, 0, none⟩) (Nat.le_refl _) (.slice ua un uc)).setCell (p := ⟨w.heap.size + 1, 0, none⟩) (by simp) .nilIface
    obtain ⟨Z, hZ⟩ : ∃ Z, (W.setCell ⟨w.heap.size, 0, none⟩ (.slice ua un uc)).setCell ⟨w.heap.size + 1, 0, none⟩ .nilIface = Z := ⟨_, rfl⟩
    rw [hZ] at z2 z3 hKZ hrowZ hBZ ⊢
    clear hZ
    have turn : ∀ r, some D = some r → ∃ o : Obj, Z.heap[r]? = some o ∧ o.isCells = false := fun r e => by cases e; exact ⟨_, hKZ, rfl⟩
    have y2 : Boxed (Z.putObj D (.deferred none)) w.heap.size 46 (.slice ua un uc) := block_kept z2 (grownBy_putObj' Z D _) turn
    have y3 : Boxed (Z.putObj D (.deferred none)) (w.heap.size + 1) 30 .nilIface := block_kept z3 (grownBy_putObj' Z D _) turn
    have yr := row_kept hrowZ (grownBy_putObj' Z D (.deferred none)) turn
    have yB := hBZ.trans (belowK_b (w := w) (Nat.le_refl _) Z D _ (.deferred none) (by omega) hKZ rfl rfl)
    have d2 := y2.cell
    have d3 := y3.cell
    refine ⟨by simp, .inl ⟨_, _, rfl, run_takeDeferred hKZ, ?_⟩⟩
    exact ⟨.tuple #[.slice ua un uc, .nilIface], by simp [results, Tryz.results13, go_sem, d2, d3], yB, .inl ⟨rfl, _, rfl, yr⟩⟩
  case stop =>
    rintro D pre W hD hS ⟨p, b, q, rfl, ⟨⟨k1, k2⟩, k3⟩, k4⟩ hK
    have hS' : er = some p := by
      rcases hS with ⟨q', _, h⟩ | ⟨p', b', e, h⟩
      · exact (map_inl_no h.symm).elim
      · have := List.append_inj_right' h rfl
        simp at this
        rw [e, this.1]
    gi_wp2
    have turn : ∀ r, some D = some r → ∃ o : Obj, W.heap[r]? = some o ∧ o.isCells = false := fun r e => by cases e; exact ⟨_, hK, rfl⟩
    have y2 : Boxed (W.putObj D (.deferred none)) w.heap.size 46 (.slice none 0 0) := block_kept k1 (grownBy_putObj' W D _) turn
    have y3 : Boxed (W.putObj D (.deferred none)) (w.heap.size + 1) 30 (errVal b) := block_kept k2 (grownBy_putObj' W D _) turn
    have ya : AtBlock (W.putObj D (.deferred none)) b p (errL aL) := block_kept k3 (grownBy_putObj' W D _) turn
    have yB := k4.trans (belowK_b (w := w) (Nat.le_refl _) W D _ (.deferred none) (by omega) hK rfl rfl)
    have d2 := y2.cell
    have d3 := y3.cell
    refine ⟨by simp, .inl ⟨_, _, rfl, run_takeDeferred hK, ?_⟩⟩
    exact ⟨.tuple #[.slice none 0 0, errVal b], by simp [results, Tryz.results13, go_sem, d2, d3], yB, .inr ⟨p, b, hS', rfl, ya⟩⟩
end Go.Proofs.YtdooeghicdaakaaGreatDoor
