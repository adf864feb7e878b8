/- (Subst).find, own, (Subst).Apply: types in variables' places. -/
import Derived.Test.YtmbaolcdjgilpaaSbFind
namespace Go.Proofs.Ytmbaolcdjgilpaa
open Go.RowKit Go.Sort Go.Lib
attribute [local go_sem] Oper.semAt_some

theorem Try.infoTy : (Try.prog.info? 34).map (fun i => (i.zero, i.size, i.bytes)) = some (some (.agg #[.int .i64 0, .string ⟨#[]⟩, .slice none 0 0]), 3, 48) := by kernel_rfl
def zeros (n : Nat) : Array Value := madeCells #[.int .i64 0, .string ⟨#[]⟩, .slice none 0 0] (n * 3)
theorem make_row3 (n : Nat) (hn : n ≤ 1000000000) (w : World) :
    (Instr.makeSlice 32 (.int .i64 (n : Int)) (.int .i64 (n : Int))).run Try.prog w = .ok (.slice (some ⟨w.heap.size, 0, none⟩) n n) (w.alloc (.cells (zeros n) 34)) := by
  obtain ⟨i, hi, hzz⟩ := Option.map_eq_some_iff.1 Try.infoTy
  simp only [Prod.mk.injEq] at hzz
  obtain ⟨hz, hs, hb⟩ := hzz
  have hr := run_make (P := Try.prog) w 32 34 i _ Try.underlying32 hi hz .i64 .i64 n n (by omega) (Int.le_refl _) (by rw [hb]; omega) (by omega)
  simp only [Int.toNat_natCast, hs] at hr
  exact hr

/-- The row of the copies, the first i of them made. -/
def RowTo (N G : Nat) (l : List T) (i : Nat) (w : World) : Prop :=
  ∃ cs, ∃ z : Nat → Value, w.heap[G]? = some (.cells cs 34 (0, 0)) ∧ cs.size = l.length * 3 ∧
    ∀ j (h : j < l.length), j < i → (cs[j * 3]? = some (.int .i64 l[j].kind) ∧ cs[j * 3 + 1]? = some (.string l[j].name) ∧ cs[j * 3 + 2]? = some (z j)) ∧ TyIn (fun k => (N ≤ k ∧ k ≠ G) ∧ k < w.heap.size) w l[j] (z j)
theorem RowTo.below {N G : Nat} {l : List T} {i : Nat} {w w' : World} (h : RowTo N G l i w) (hb : Below w.heap.size w w') : RowTo N G l i w' := by
  obtain ⟨cs, z, h1, h2, h3⟩ := h
  refine ⟨cs, z, (hb.block G (Array.getElem?_eq_some_iff.1 h1).1).trans h1, h2, fun j hj hi => ⟨(h3 j hj hi).1, ?_⟩⟩
  exact ((h3 j hj hi).2.keep (fun k _ _ hk hh => (hb.block k hk.2).trans hh)).mono (fun k hk => ⟨hk.1, Nat.lt_of_lt_of_le hk.2 hb.size⟩)
/-- Three stores: the next copy is laid into the row. -/
theorem RowTo.next {N G : Nat} {l : List T} {i : Nat} {w : World} (h : RowTo N G l i w) (hi : i < l.length) {v : Value} (hv : TyIn (fun k => (N ≤ k ∧ k ≠ G) ∧ k < w.heap.size) w l[i] v) :
    RowTo N G l (i + 1) (((w.setCell ⟨G, i * 3, none⟩ (.int .i64 l[i].kind)).setCell ⟨G, i * 3 + 1, none⟩ (.string l[i].name)).setCell ⟨G, i * 3 + 2, none⟩ v) := by
  obtain ⟨cs, z, h1, h2, h3⟩ := h
  have hsz : ∀ (W : World) (a : Addr) (x : Value), (W.setCell a x).heap.size = W.heap.size := fun W a x => by simp [World.setCell]
  have hset : ∀ {W : World} {o : Nat} {cs : Array Value} (v : Value), W.heap[G]? = some (.cells cs 34 (0, 0)) → (W.setCell ⟨G, o, none⟩ v).heap[G]? = some (.cells (cs.setIfInBounds o v) 34 (0, 0)) := fun {W o cs} v h => by
    obtain ⟨hlt, hk⟩ := Array.getElem?_eq_some_iff.1 h
    show (W.heap.modify G _)[G]? = _
    rw [Array.getElem?_eq_getElem (by rw [Array.size_modify]; exact hlt), Array.getElem_modify_self, hk]
    rfl
  have hoth : ∀ k, k ≠ G → (((w.setCell ⟨G, i * 3, none⟩ (.int .i64 l[i].kind)).setCell ⟨G, i * 3 + 1, none⟩ (.string l[i].name)).setCell ⟨G, i * 3 + 2, none⟩ v).heap[k]? = w.heap[k]? := fun k hk =>
    (Below.heap_setCell _ ⟨G, i * 3 + 2, none⟩ _ k hk).trans ((Below.heap_setCell _ ⟨G, i * 3 + 1, none⟩ _ k hk).trans (Below.heap_setCell _ ⟨G, i * 3, none⟩ _ k hk))
  refine ⟨((cs.setIfInBounds (i * 3) (.int .i64 l[i].kind)).setIfInBounds (i * 3 + 1) (.string l[i].name)).setIfInBounds (i * 3 + 2) v, fun j => if j = i then v else z j, hset _ (hset _ (hset _ h1)), by simpa using h2, fun j hj hji => ?_⟩
  by_cases e : j = i
  · subst e
    refine ⟨⟨?_, ?_, ?_⟩, ?_⟩
    · simp [Array.getElem?_setIfInBounds, h2]; omega
    · simp [Array.getElem?_setIfInBounds, h2]; omega
    · simp [Array.getElem?_setIfInBounds, h2]; omega
    · simp only [if_true, hsz]
      exact hv.keep (fun k _ _ hk hh => (hoth k hk.1.2).trans hh)
  · obtain ⟨⟨a1, a2, a3⟩, a4⟩ := h3 j hj (by omega)
    refine ⟨⟨?_, ?_, ?_⟩, ?_⟩
    · rw [Array.getElem?_setIfInBounds_ne (by omega), Array.getElem?_setIfInBounds_ne (by omega), Array.getElem?_setIfInBounds_ne (by omega)]; exact a1
    · rw [Array.getElem?_setIfInBounds_ne (by omega), Array.getElem?_setIfInBounds_ne (by omega), Array.getElem?_setIfInBounds_ne (by omega)]; exact a2
    · rw [Array.getElem?_setIfInBounds_ne (by omega), Array.getElem?_setIfInBounds_ne (by omega), Array.getElem?_setIfInBounds_ne (by omega)]; simp only [if_neg e]; exact a3
    · simp only [if_neg e, hsz]
      exact a4.keep (fun k _ _ hk hh => (hoth k hk.1.2).trans hh)
theorem RowTo.start (N : Nat) (l : List T) (w' : World) (G : Nat) (h : w'.heap[G]? = some (.cells (zeros l.length) 34 (0, 0))) : RowTo N G l 0 w' :=
  ⟨_, fun _ => undef, h, by simp [zeros, size_madeCells], fun j _ h => absurd h (by omega)⟩
theorem RowTo.done {G : Nat} {l : List T} {w : World} (h : RowTo G G l l.length w) {t : T} (ht : t.kids = l) (N : Nat) (W : World) (hN : N ≤ G) (hk : ∀ k, G ≤ k → W.heap[k]? = w.heap[k]?) : TyIn (fun k => N ≤ k) W t (.slice (some ⟨G, 0, none⟩) l.length l.length) := by
  subst ht
  obtain ⟨cs, z, h1, h2, h3⟩ := h
  refine .row t G t.kids.length cs (0, 0) z hN ((hk G (Nat.le_refl _)).trans h1) (Nat.le_refl _) (fun i hi => (h3 i hi hi).1) (fun i hi => ?_)
  exact ((h3 i hi hi).2.keep (fun k _ _ ho hh => (hk k ho.1.1).trans hh)).mono (fun k hk => Nat.le_trans hN hk.1.1)
theorem RowTo.cells {N G : Nat} {l : List T} {i : Nat} {w : World} (h : RowTo N G l i w) (hi : i < l.length) : ∃ x y z, w.cell? ⟨G, i * 3, none⟩ = some x ∧ w.cell? ⟨G, i * 3 + 1, none⟩ = some y ∧ w.cell? ⟨G, i * 3 + 2, none⟩ = some z ∧ w.frozen? ⟨G, i * 3, none⟩ = false ∧ w.frozen? ⟨G, i * 3 + 1, none⟩ = false ∧ w.frozen? ⟨G, i * 3 + 2, none⟩ = false := by
  obtain ⟨cs, z, h1, h2, _⟩ := h
  refine ⟨cs[i * 3]'(by omega), cs[i * 3 + 1]'(by omega), cs[i * 3 + 2]'(by omega), ?_, ?_, ?_, Lib.frozen_of_heap h1 _, Lib.frozen_of_heap h1 _, Lib.frozen_of_heap h1 _⟩ <;> (rw [Lib.cell_of_heap h1]; simp; try omega)

theorem set3_block {W : World} {r : Nat} {x0 y0 z0 : Value} {T : TypeId} (h : W.heap[r]? = some (.cells #[x0, y0, z0] T (0, 0))) (x y z : Value) :
    (((W.setCell ⟨r, 0, none⟩ x).setCell ⟨r, 1, none⟩ y).setCell ⟨r, 2, none⟩ z).heap[r]? = some (.cells #[x, y, z] T (0, 0)) := blk_set (blk_set (blk_set h x) y) z
/-- No part of a small type is wider than the type. -/
theorem len_sizes : ∀ l : List T, l.length ≤ tsizes l
  | [] => Nat.le_refl _
  | a :: l => by have := len_sizes l; have := tsize_eq a; simp [tsizes]; omega
theorem size_mem {k : T} : ∀ {l : List T}, k ∈ l → tsize k ≤ tsizes l
  | a :: l, h => by
    rw [tsizes]
    rcases List.mem_cons.1 h with rfl | h
    · omega
    · have := size_mem h; omega
theorem kids_small {t : T} {n : Nat} (h : tsize t ≤ n) : t.kids.length ≤ n ∧ ∀ k ∈ t.kids, tsize k ≤ n := by
  have e := tsize_eq t
  exact ⟨by have := len_sizes t.kids; omega, fun k hk => by have := size_mem hk; omega⟩

mutual
/-- Types in variables' places. -/
noncomputable def app (d : List PR) : T → T
  | .var n => ty n d
  | .con n l => .con n (apps d l)
  | .fn a b => .fn (app d a) (app d b)
  | .all n a => .all n (app d a)
noncomputable def apps (d : List PR) : List T → List T
  | [] => []
  | a :: l => app d a :: apps d l
end
theorem apps_map (d : List PR) : ∀ l, apps d l = l.map (app d)
  | [] => rfl
  | a :: l => by rw [apps, apps_map d l]; rfl
theorem app_parts (d : List PR) (t : T) (h : ∀ n, t ≠ .var n) : (app d t).kind = t.kind ∧ (app d t).name = t.name ∧ (app d t).kids = t.kids.map (app d) := by
  cases t with
  | var n => exact absurd rfl (h n)
  | con n l => rw [app, apps_map]; exact ⟨rfl, rfl, rfl⟩
  | fn a b => rw [app]; exact ⟨rfl, rfl, rfl⟩
  | all n a => rw [app]; exact ⟨rfl, rfl, rfl⟩
mutual
theorem app_nil : ∀ t, app [] t = t
  | .var n => rfl
  | .con n l => by rw [app, apps_nil l]
  | .fn a b => by rw [app, app_nil a, app_nil b]
  | .all n a => by rw [app, app_nil a]
theorem apps_nil : ∀ l, apps [] l = l
  | [] => rfl
  | a :: l => by rw [apps, app_nil a, apps_nil l]
end

def fv' : Option PR → Value
  | none => .agg #[.int .i64 0, .string ⟨#[]⟩, .slice none 0 0]
  | some x => .agg #[.int .i64 x.t.kind, .string x.t.name, .slice x.a x.t.kids.length x.c]

set_option maxHeartbeats 2000000 in
theorem find_any (v : Value) (d : List PR) (n : ByteArray) (w : World) (h : SubAt v d w) (hl : d.length < 1152921504606846976) :
    Calls Try.prog 32 #[.agg #[v], .string n] w fun e w' => e = .returned (.tuple #[fv' (lk n d), .bool (lk n d).isSome]) ∧ Below w.heap.size w w' := by
  obtain ⟨⟨h1, h2⟩, h3⟩ := h
  have hb2 : ∀ o1 o2 : Obj, Below w.heap.size w ((w.alloc o1).alloc o2) := fun o1 o2 => ((Below.refl _ w).alloc (Nat.le_refl _) _).alloc (by simp) _
  have HB2 := Lib.hid hb2
  clear hb2
  rcases h1 with ⟨rfl, a, c, rfl, _⟩ | ⟨g, cap, rfl, hc, hr⟩
  · have e1 : lk n [] = none := rfl
    rw [e1]
    go_enter Try.func32, Try.ntmps32
    go_wp2_with (go_at_call 46; refine (search_none _ _ _ _).mono ?_; rintro e w2 ⟨rfl, rfl⟩)
    refine bodyPost_ret (v := .tuple #[.agg #[.int .i64 0, .string ⟨#[]⟩, .slice none 0 0], .bool false]) (by simp [results, Try.results32, go_sem]) rfl ⟨rfl, HB2.out _ _⟩
  · have HS := Lib.hid (fun o1 o2 => search_some g cap d n ((w.alloc o1).alloc o2) (hr.below (HB2.out o1 o2)) h2.1 hl)
    have HR := Lib.hid hr
    have hg := hr.lt
    clear h2 h3 hr
    obtain ⟨res, hres⟩ : ∃ r, lk n d = r := ⟨_, rfl⟩
    have HRes := Lib.hid hres
    rw [hres]
    clear hres
    go_enter Try.func32, Try.ntmps32
    go_wp2_with fail
    have hz : ∀ o1 : Obj, ((w.alloc o1).alloc (.cells #[.int .i64 0, .string ⟨#[]⟩, .slice none 0 0] 34)).heap[w.heap.size + 1]? = some (.cells #[.int .i64 0, .string ⟨#[]⟩, .slice none 0 0] 34 (0, 0)) := fun o1 => by
      have := alloc_new (w.alloc o1) (.cells #[.int .i64 0, .string ⟨#[]⟩, .slice none 0 0] 34)
      simpa using this
    have hy : ∀ o2 : Obj, ((w.alloc (.cells #[.slice (some ⟨g, 0, none⟩) d.length cap] 39)).alloc o2).heap[w.heap.size]? = some (.cells #[.slice (some ⟨g, 0, none⟩) d.length cap] 39 (0, 0)) := fun o2 => by
      rw [Below.heap_alloc _ _ _ (by simp)]; exact alloc_new w _
    have HZ := Lib.hid hz; have HY := Lib.hid hy
    clear hz hy
    go_wp2_with (go_at_call 46; refine (HS.out _ _).mono ?_)
    rintro e w2 ⟨⟨i, b, rfl, hfd⟩, hb2⟩
    have hz2 := (hb2.block (w.heap.size + 1) (by simp)).trans (HZ.out _)
    have hy2 := (hb2.block w.heap.size (by simp; omega)).trans (HY.out _)
    obtain ⟨z0, z1, z2⟩ := three_cells hz2
    have u0 := Lib.frozen_of_heap hz2 0
    have u1 := Lib.frozen_of_heap hz2 1
    have u2 := Lib.frozen_of_heap hz2 2
    have y0 : w2.cell? ⟨w.heap.size, 0, none⟩ = some (.slice (some ⟨g, 0, none⟩) d.length cap) := by rw [Lib.cell_of_heap hy2]; rfl
    have HZ2 := Lib.hid hz2
    have HB3 := Lib.hid ((HB2.out _ _).trans (hb2.mono (by simp; omega)))
    clear hb2 hz2 hy2 HZ HY HS
    rcases hfd with ⟨rfl, hi, hk⟩ | ⟨rfl, hk⟩
    · have hres : res = some (d.getD i noP) := by rw [← HRes.out]; exact hk
      subst hres
      obtain ⟨x0, x1, x2, x3⟩ := (HR.out.below HB3.out).cells hi
      clear HRes hk HR
      obtain ⟨x, hx⟩ : ∃ x, d.getD i noP = x := ⟨_, rfl⟩
      have HX := Lib.hid hx
      rw [hx] at x0 x1 x2 x3
      clear hx
      have hiz : (i : Int) < (d.length : Int) := by omega
      go_wp2
      have hs := set3_block HZ2.out (.int .i64 x.t.kind) (.string x.t.name) (.slice x.a x.t.kids.length x.c)
      have hc := three_cells hs
      refine bodyPost_ret (v := .tuple #[.agg #[.int .i64 x.t.kind, .string x.t.name, .slice x.a x.t.kids.length x.c], .bool true]) (by simp [results, Try.results32, go_sem, hc.1, hc.2.1, hc.2.2]) rfl ⟨by rw [HX.out]; rfl, ?_⟩
      exact ((HB3.out.setCell (p := ⟨w.heap.size + 1, 0, none⟩) (Nat.le_succ _) _).setCell (p := ⟨w.heap.size + 1, 1, none⟩) (Nat.le_succ _) _).setCell (p := ⟨w.heap.size + 1, 2, none⟩) (Nat.le_succ _) _
    · have hres : res = none := by rw [← HRes.out]; exact hk
      subst hres
      clear HRes hk HR
      go_wp2
      have hs := set3_block HZ2.out (.int .i64 0) (.string ⟨#[]⟩) (.slice none 0 0)
      have hc := three_cells hs
      refine bodyPost_ret (v := .tuple #[.agg #[.int .i64 0, .string ⟨#[]⟩, .slice none 0 0], .bool false]) (by simp [results, Try.results32, go_sem, hc.1, hc.2.1, hc.2.2]) rfl ⟨rfl, ?_⟩
      exact ((HB3.out.setCell (p := ⟨w.heap.size + 1, 0, none⟩) (Nat.le_succ _) _).setCell (p := ⟨w.heap.size + 1, 1, none⟩) (Nat.le_succ _) _).setCell (p := ⟨w.heap.size + 1, 2, none⟩) (Nat.le_succ _) _
end Go.Proofs.Ytmbaolcdjgilpaa
