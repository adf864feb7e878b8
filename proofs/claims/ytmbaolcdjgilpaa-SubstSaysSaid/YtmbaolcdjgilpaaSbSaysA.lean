/- SubstSays: what its statements keep; its calls, whose results are told. -/
import Derived.Test.YtmbaolcdjgilpaaSbRPreds
import Derived.Test.YtmbaolcdjgilpaaSbGet
namespace Go.Proofs.Ytmbaolcdjgilpaa
open Go.RowKit Go.Sort Go.Lib
attribute [local go_sem] Oper.semAt_some

def zeroTV : Value := .agg #[.int .i64 0, .string ⟨#[]⟩, .slice none 0 0]
set_option maxHeartbeats 1000000 in
theorem app_zero (w : World) : Calls Try.prog 16 #[.agg #[.slice none 0 0], .agg #[.int .i64 0, .string ⟨#[]⟩, .slice none 0 0]] w fun e w' => e = .returned (.agg #[.int .i64 0, .string ⟨#[]⟩, .slice none 0 0]) ∧ Below w.heap.size w w' := by
  have HB := Lib.hid (below_three w)
  go_enter Try.func16, Try.ntmps16
  go_wp2
  refine bodyPost_ret (v := .agg #[.int .i64 0, .string ⟨#[]⟩, .slice none 0 0]) (by simp [results, Try.results16, go_sem]) rfl ⟨rfl, HB.out _ _ _⟩
set_option maxHeartbeats 1000000 in
theorem own_zero (w : World) : Calls Try.prog 31 #[.agg #[.int .i64 0, .string ⟨#[]⟩, .slice none 0 0]] w fun e w' => e = .returned (.agg #[.int .i64 0, .string ⟨#[]⟩, .slice none 0 0]) ∧ Below w.heap.size w w' := by
  have HC := Lib.hid (fun o1 o2 => app_zero ((w.alloc o1).alloc o2))
  go_enter Try.func31, Try.ntmps31
  go_wp2_with (go_at_call 16; refine (HC.out _ _).mono ?_)
  rintro e w2 ⟨rfl, hb⟩
  have hz2 := (hb.block (w.heap.size + 1) (by simp)).trans (new_two w _ _)
  obtain ⟨z0, z1, z2⟩ := three_cells hz2
  have u0 := Lib.frozen_of_heap hz2 0
  have u1 := Lib.frozen_of_heap hz2 1
  have u2 := Lib.frozen_of_heap hz2 2
  have HZ := Lib.hid hz2
  have HB := Lib.hid ((below_two w _ _).trans (hb.mono (by simp; omega)))
  clear hz2 hb HC
  go_wp2
  have hc := three_cells (set3_block HZ.out (.int .i64 0) (.string ⟨#[]⟩) (.slice none 0 0))
  exact bodyPost_ret (v := .agg #[.int .i64 0, .string ⟨#[]⟩, .slice none 0 0]) (by simp [results, Try.results31, go_sem, hc.1, hc.2.1, hc.2.2]) rfl ⟨rfl, below_set3 HB.out (Nat.le_succ _) _ _ _⟩
set_option maxHeartbeats 2000000 in
/-- Get of a name that has none. -/
theorem get_none {v : Value} {d : List PR} {n : ByteArray} {w : World} (h : SubAt v d w) (hl : d.length < 1000000) (hx : lk n d = none) :
    Calls Try.prog 12 #[.agg #[v], .string n] w fun e w' => e = .returned (.tuple #[.agg #[.int .i64 0, .string ⟨#[]⟩, .slice none 0 0], .bool false]) ∧ Below w.heap.size w w' := by
  have HF := Lib.hid (fun (V : World) (hb : Below w.heap.size w V) => find_any v d n V (h.below hb) (by omega))
  simp only [hx, fv', Option.isSome_none] at HF
  obtain ⟨av, cv, rfl⟩ := h.shape
  clear h hx
  go_enter Try.func12, Try.ntmps12
  go_wp2_with (go_at_call 32; refine (HF.out _ (below_two w _ _)).mono ?_)
  rintro e w2 ⟨rfl, hb2⟩
  have hbw : Below w.heap.size w w2 := (below_two w _ _).trans (hb2.mono (by simp; omega))
  have hz := (hb2.block (w.heap.size + 1) (by simp)).trans (new_two w _ _)
  have HZ := Lib.hid hz; have HB := Lib.hid hbw
  have lz := (Array.getElem?_eq_some_iff.1 hz).1
  have HO := Lib.hid (fun o => own_zero (w2.alloc o))
  clear hb2 hbw hz HF
  go_wp2_with (go_at_call 31; refine (HO.out _).mono ?_)
  rintro e w3 ⟨rfl, g2⟩
  have hz3 := (g2.block (w.heap.size + 1) (by simp; omega)).trans ((Below.heap_alloc _ _ _ lz).trans HZ.out)
  obtain ⟨z0, z1, z2⟩ := three_cells hz3
  have u0 := Lib.frozen_of_heap hz3 0
  have u1 := Lib.frozen_of_heap hz3 1
  have u2 := Lib.frozen_of_heap hz3 2
  have HZ3 := Lib.hid hz3; have HB3 := Lib.hid ((HB.out.alloc HB.out.size _).trans (g2.mono (by have := HB.out.size; simp; omega)))
  clear g2 hz3 HO HZ HB lz
  go_wp2
  have hs3 := set3_block HZ3.out (.int .i64 0) (.string ⟨#[]⟩) (.slice none 0 0)
  have hc := three_cells hs3
  exact bodyPost_ret (v := .tuple #[.agg #[.int .i64 0, .string ⟨#[]⟩, .slice none 0 0], .bool false]) (by simp [results, Try.results12, go_sem, hc.1, hc.2.1, hc.2.2]) rfl ⟨rfl, below_set3 HB3.out (Nat.le_succ _) _ _ _⟩

/-- The document's pairs. -/
def GR (u : Value) (d : List PR) (w : World) : Prop := GivenG 47 u d w ∧ Typ d w
theorem GR.keep {v : Value} {d : List PR} {w w' : World} (h : GR v d w) (hk : KeepT w w') (hr : ∀ g, RowG 47 g d w → w'.heap[g]? = w.heap[g]?) : GR v d w' := by
  obtain ⟨h1, h2⟩ := h
  refine ⟨?_, h2.keep hk⟩
  rcases h1 with h1 | ⟨h0, g, cap, e, hg⟩
  · exact .inl h1
  · exact .inr ⟨h0, g, cap, e, hg.same (hr g hg)⟩
theorem GR.below {v : Value} {d : List PR} {w w' : World} (h : GR v d w) (hb : Below w.heap.size w w') : GR v d w' := h.keep (KeepT.of_below hb) fun g hg => hb.block g hg.lt
theorem GR.mk {B p : Nat} {a : Option Addr} {n c k : Nat} {v : Value} {d : List PR} {w w' : World} (h : GR v d w) (hf : MkFr B p w w') (hs : SeqAt B p a n c k w) : GR v d w' :=
  h.keep (KeepT.of_mk hf hs) fun g hg => by
    obtain ⟨cs, h1, _⟩ := hg
    refine (hf.2 g _ h1 ?_).trans h1.symm
    rintro rfl
    have := h1.symm.trans hs.1.2
    simp at this
theorem pairs_both (B p : Nat) (a : Option Addr) (n c k : Nat) (w : World) (h : SeqAt B p a n c k w) (hk : k < 900000000000000000) (hn : n < 1152921504606846976) :
    Calls Try.prog 8 #[.pointer (some ⟨p, 0, none⟩)] w fun e w' => (∃ v u d, e = .returned (.tuple #[v, u]) ∧ GP v d w' ∧ GR u d w') ∧ (∃ k', k' ≤ k + 40 ∧ SeqAt B p a n c k' w') ∧ MkFr B p w w' := by
  refine (pairs_any B p a n c k w h hk hn).mono ?_
  rintro e w' ⟨⟨d, v, u, rfl, ⟨hl, hg⟩, ⟨hv, hu⟩, ht⟩, h2, h3⟩
  exact ⟨⟨v, u, d, rfl, ⟨⟨hv, ht⟩, hl, fun x hx => by have := size_text x.t (hg x hx).1; have := (hg x hx).2.2; omega⟩, hu, ht⟩, h2, h3⟩
theorem BoxT.made {b : Nat} {t : T} {pa : Option Addr} {ca : Nat} {B p : Nat} {a : Option Addr} {n c k : Nat} {w w' : World} (h : BoxT b t pa ca w) (hf : MkFr B p w w') (hs : SeqAt B p a n c k w) (hb : b ≠ p) : BoxT b t pa ca w' := ⟨hf.2 _ _ h.1 hb, h.2.keep (KeepT.of_mk hf hs)⟩
theorem PrsAt.below {w w' : World} {v : Value} {l : List Pr} (h : PrsAt w v l) (hb : Below w.heap.size w w') : PrsAt w' v l := h.keep (KeepT.of_below hb) (KeepP.of_below hb)
theorem of_both {v : Value} {d : List PR} {w : World} (h : GP v d w) :
    Calls Try.prog 11 #[v] w fun e w' => (∃ sv l, e = .returned (.agg #[sv]) ∧ SubAt sv l w' ∧ Sb 56 4 (app d) l) ∧ Below w.heap.size w w' := by
  obtain ⟨⟨h1, h2⟩, h3, h4⟩ := h
  refine (of_any h1 h2 (fun x hx => fits_small (by have := h4 x hx; omega)) (fun x hx => by have := h4 x hx; omega) (by omega)).mono ?_
  rintro e w' ⟨⟨sv, l, rfl, hs, hm⟩, hb⟩
  refine ⟨⟨sv, l, rfl, hs, by have := hm.len; omega, fun x hx => ?_, fun t => made_ty hm t⟩, hb⟩
  obtain ⟨y, hy, _, e⟩ := hm.sub x hx
  rw [e]; exact h4 y hy
/-- What all statements keep. -/
def FA (w : World) (bt : Nat) (t : T) (pa : Option Addr) (ca : Nat) (uA uB : Value) (dA dB : List PR) (pv : Value) (pl : List Pr) (fv gv : Value) (F G : List ByteArray) (V : World) : Prop :=
  BoxT bt t pa ca V ∧ (GR uA dA V ∧ GR uB dB V) ∧ PrsAt V pv pl ∧ (StrsP fv F V ∧ StrsP gv G V) ∧ Below w.heap.size w V
theorem FA.below {w : World} {bt : Nat} {t : T} {pa : Option Addr} {ca : Nat} {uA uB : Value} {dA dB : List PR} {pv : Value} {pl : List Pr} {fv gv : Value} {F G : List ByteArray} {X Y : World} (h : FA w bt t pa ca uA uB dA dB pv pl fv gv F G X) (hb : Below X.heap.size X Y) : FA w bt t pa ca uA uB dA dB pv pl fv gv F G Y :=
  ⟨h.1.below hb, ⟨h.2.1.1.below hb, h.2.1.2.below hb⟩, h.2.2.1.below hb, ⟨h.2.2.2.1.1.below hb, h.2.2.2.1.2.below hb⟩, h.2.2.2.2.trans (hb.mono h.2.2.2.2.size)⟩
/-- What the last statement keeps. -/
def SY (w : World) (bt bs bu : Nat) (t : T) (pa : Option Addr) (ca : Nat) (uA uB : Value) (dA dB : List PR) (pv : Value) (pl : List Pr) (fv gv : Value) (F G : List ByteArray) (sx sy : Value) (lx ly : List PR) (vb : Value) (q : List PR) (V : World) : Prop :=
  (FA w bt t pa ca uA uB dA dB pv pl fv gv F G V ∧ GR vb q V) ∧ BoxS bs sx lx V ∧ BoxS bu sy ly V
theorem SY.below {w : World} {bt bs bu : Nat} {t : T} {pa : Option Addr} {ca : Nat} {uA uB : Value} {dA dB : List PR} {pv : Value} {pl : List Pr} {fv gv : Value} {F G : List ByteArray} {sx sy : Value} {lx ly : List PR} {vb : Value} {q : List PR} {X Y : World} (h : SY w bt bs bu t pa ca uA uB dA dB pv pl fv gv F G sx sy lx ly vb q X) (hb : Below X.heap.size X Y) : SY w bt bs bu t pa ca uA uB dA dB pv pl fv gv F G sx sy lx ly vb q Y :=
  ⟨⟨h.1.1.below hb, h.1.2.below hb⟩, h.2.1.below hb, h.2.2.below hb⟩
theorem SY.cells {w : World} {bt bs bu : Nat} {t : T} {pa : Option Addr} {ca : Nat} {uA uB : Value} {dA dB : List PR} {pv : Value} {pl : List Pr} {fv gv : Value} {F G : List ByteArray} {sx sy : Value} {lx ly : List PR} {vb : Value} {q : List PR} {X : World} (h : SY w bt bs bu t pa ca uA uB dA dB pv pl fv gv F G sx sy lx ly vb q X) :
    (X.cell? ⟨bt, 0, none⟩ = some (.int .i64 t.kind) ∧ X.cell? ⟨bt, 1, none⟩ = some (.string t.name) ∧ X.cell? ⟨bt, 2, none⟩ = some (.slice pa t.kids.length ca)) ∧ X.cell? ⟨bs, 0, none⟩ = some sx ∧ X.cell? ⟨bu, 0, none⟩ = some sy := ⟨h.1.1.1.cells, h.2.1.cell, h.2.2.cell⟩
/-- Calls whose results are told. -/
theorem rapp_is {d : List PR} {v : Value} {t t' : T} {a : Option Addr} {c : Nat} {w : World} (hl : d.length < 1000000) (h : GR v d w) (ht : TysAt w (.slice a t.kids.length c) t.kids) (hz : tsize t ≤ 1000000) (e : app d t = t') :
    Calls Try.prog 13 #[v, .agg #[.int .i64 t.kind, .string t.name, .slice a t.kids.length c]] w fun e Y => (∃ za zc, e = .returned (.agg #[.int .i64 t'.kind, .string t'.name, .slice za t'.kids.length zc]) ∧ TysAt Y (.slice za t'.kids.length zc) t'.kids) ∧ Below w.heap.size w Y := by
  subst e; exact rapp_ret hl h.1 h.2 ht hz
theorem preds_is {s v : Value} {d : List PR} {l : List Pr} {f : T → T} {w : World} (hs : SubAt s d w) (h : Sb 56 4 f d) (hv : PrsAt w v l) (hq : l.length ≤ 3 ∧ ∀ q ∈ l, tsize q.2 ≤ 56) (d' : List PR) (e : ∀ t, app d' t = f t) :
    Calls Try.prog 19 #[.agg #[s], v] w fun e Y => (∃ za zc, e = .returned (.slice za l.length zc) ∧ PrsAt Y (.slice za l.length zc) (appP d' l)) ∧ Below w.heap.size w Y := by
  refine (preds_any s v d l w (by have := h.1; omega) (fun x hx => by have := h.2.1 x hx; omega) hs hv (fun q hq' => by have := hq.2 q hq'; omega) (by have := hq.1; omega)).mono ?_
  rintro e1 Y ⟨⟨a, c, rfl, hp⟩, hb⟩
  have : appP d l = appP d' l := by unfold appP; exact List.map_congr_left fun q _ => by rw [h.2.2, e]
  rw [this] at hp
  exact ⟨⟨a, c, rfl, hp⟩, hb⟩
theorem rpreds_is {u v : Value} {d : List PR} {l : List Pr} {w : World} (h : GR u d w) (hl : d.length < 1000000) (hv : PrsAt w v l) (hq : l.length ≤ 3 ∧ ∀ q ∈ l, tsize q.2 ≤ 56) :
    Calls Try.prog 20 #[u, v] w fun e Y => (∃ za zc, e = .returned (.slice za l.length zc) ∧ PrsAt Y (.slice za l.length zc) (appP d l)) ∧ Below w.heap.size w Y :=
  (rpreds_any u v d l w hl h.1 h.2 hv (fun q hq' => by have := hq.2 q hq'; omega) (by have := hq.1; omega)).mono (by rintro e Y ⟨⟨a, c, rfl, hp⟩, hb⟩; exact ⟨⟨a, c, rfl, hp⟩, hb⟩)
theorem samePreds_is {l : List Pr} {d : List PR} {a b : Option Addr} {c e : Nat} {w : World} (hl : l.length ≤ 3) (hf : ∀ q ∈ l, tsize (app d q.2) ≤ 1000000000) (h : PrsAt w (.slice a l.length c) (appP d l)) (h' : PrsAt w (.slice b l.length e) (appP d l)) :
    Calls Try.prog 18 #[.slice a l.length c, .slice b l.length e] w fun e Y => e = .returned (.bool true) ∧ Below w.heap.size w Y := by
  have hlen : (appP d l).length = l.length := by simp [appP]
  have := samePreds_of (appP d l) (appP d l) (fun q hq => by obtain ⟨x, hx, rfl⟩ := List.mem_map.1 hq; exact fits_small (hf x hx)) a b c e w (by rw [hlen]; exact h) (by rw [hlen]; exact h') (by rw [hlen]; omega)
  rw [hlen, eqB_true rfl] at this
  exact this
end Go.Proofs.Ytmbaolcdjgilpaa
