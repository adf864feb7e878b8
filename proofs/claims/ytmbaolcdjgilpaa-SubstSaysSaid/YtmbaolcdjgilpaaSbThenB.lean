/- SubstThen: the pairs it is given, kept; its calls ahead of the regions. -/
import Derived.Test.YtmbaolcdjgilpaaSbThenA
namespace Go.Proofs.Ytmbaolcdjgilpaa
open Go.RowKit Go.Sort Go.Lib
attribute [local go_sem] Oper.semAt_some

/-- What a call of pairs hands out. -/
def GP (v : Value) (d : List PR) (w : World) : Prop := (GivenP v d w ∧ Typ d w) ∧ d.length ≤ 4 ∧ ∀ x ∈ d, tsize x.t ≤ 56
theorem GP.keep {v : Value} {d : List PR} {w w' : World} (h : GP v d w) (hk : KeepT w w') (hr : ∀ g, RowP g d w → w'.heap[g]? = w.heap[g]?) : GP v d w' := by
  obtain ⟨⟨h1, h2⟩, h3⟩ := h
  refine ⟨⟨?_, h2.keep hk⟩, h3⟩
  rcases h1 with h1 | ⟨h0, g, cap, e, hg⟩
  · exact .inl h1
  · exact .inr ⟨h0, g, cap, e, hg.same (hr g hg)⟩
theorem GP.below {v : Value} {d : List PR} {w w' : World} (h : GP v d w) (hb : Below w.heap.size w w') : GP v d w' := h.keep (KeepT.of_below hb) fun g hg => hb.block g hg.lt
theorem GP.mk {B p : Nat} {a : Option Addr} {n c k : Nat} {v : Value} {d : List PR} {w w' : World} (h : GP v d w) (hf : MkFr B p w w') (hs : SeqAt B p a n c k w) : GP v d w' :=
  h.keep (KeepT.of_mk hf hs) fun g hg => by
    obtain ⟨cs, h1, _⟩ := hg
    refine (hf.2 g _ h1 ?_).trans h1.symm
    rintro rfl
    have := h1.symm.trans hs.1.2
    simp at this
theorem pairs_gp (B p : Nat) (a : Option Addr) (n c k : Nat) (w : World) (h : SeqAt B p a n c k w) (hk : k < 900000000000000000) (hn : n < 1152921504606846976) :
    Calls Try.prog 8 #[.pointer (some ⟨p, 0, none⟩)] w fun e w' => (∃ v u d, e = .returned (.tuple #[v, u]) ∧ GP v d w') ∧ (∃ k', k' ≤ k + 40 ∧ SeqAt B p a n c k' w') ∧ MkFr B p w w' := by
  refine (pairs_any B p a n c k w h hk hn).mono ?_
  rintro e w' ⟨⟨d, v, u, rfl, ⟨hl, hg⟩, ⟨hv, _⟩, ht⟩, h2, h3⟩
  exact ⟨⟨v, u, d, rfl, ⟨hv, ht⟩, hl, fun x hx => by have := size_text x.t (hg x hx).1; have := (hg x hx).2.2; omega⟩, h2, h3⟩
theorem of_gp {v : Value} {d : List PR} {w : World} (h : GP v d w) :
    Calls Try.prog 11 #[v] w fun e w' => (∃ sv l, e = .returned (.agg #[sv]) ∧ SubAt sv l w' ∧ Sb 56 4 (app l) l) ∧ Below w.heap.size w w' := by
  obtain ⟨⟨h1, h2⟩, h3, h4⟩ := h
  refine (of_any h1 h2 (fun x hx => fits_small (by have := h4 x hx; omega)) (fun x hx => by have := h4 x hx; omega) (by omega)).mono ?_
  rintro e w' ⟨⟨sv, l, rfl, hs, hm⟩, hb⟩
  refine ⟨⟨sv, l, rfl, hs, by have := hm.len; omega, fun x hx => ?_, fun t => rfl⟩, hb⟩
  obtain ⟨y, hy, _, e⟩ := hm.sub x hx
  rw [e]; exact h4 y hy
theorem sb_nil : Sb 1 0 (fun t => t) [] := ⟨Nat.le_refl _, (fun _ h => nomatch h), app_nil⟩

theorem thl_one (w w5 : World) (t : T) (pa : Option Addr) (ca : Nat) (vA vB vC : Value) (dA dB dC : List PR) (HB : Below w.heap.size w w5) (HT : TysAt w5 (.slice pa t.kids.length ca) t.kids) (hA : GP vA dA w5) (hB : GP vB dB w5) (hC : GP vC dC w5) :
    Calls Try.prog 11 #[vA] (w5.alloc (.cells #[.int .i64 t.kind, .string t.name, .slice pa t.kids.length ca] 34))
      fun e w' => (∃ sv l, e = .returned (.agg #[sv]) ∧ SubAt sv l w' ∧ Sb 56 4 (app l) l) ∧ BoxT w5.heap.size t pa ca w' ∧ (GP vB dB w' ∧ GP vC dC w') ∧ Below w.heap.size w w' := by
  have b1 := below_a w5 (.cells #[.int .i64 t.kind, .string t.name, .slice pa t.kids.length ca] 34)
  have k1 := BoxT.new (t := t) HT
  generalize w5.alloc (.cells #[.int .i64 t.kind, .string t.name, .slice pa t.kids.length ca] 34) = V at *
  refine (of_gp (hA.below b1)).mono ?_
  rintro e w' ⟨h1, hb⟩
  exact ⟨h1, k1.below hb, ⟨(hB.below b1).below hb, (hC.below b1).below hb⟩, (HB.trans (b1.mono HB.size)).trans (hb.mono (Nat.le_trans HB.size b1.size))⟩
theorem thl_two (w w6 : World) (b11 : Nat) (t : T) (pa : Option Addr) (ca : Nat) (sx : Value) (lx : List PR) (vB vC : Value) (dB dC : List PR) (HB : Below w.heap.size w w6) (H1 : BoxT b11 t pa ca w6) (hx : SubAt sx lx w6) (hB : GP vB dB w6) (hC : GP vC dC w6) :
    Calls Try.prog 11 #[vB] (w6.alloc (.cells #[sx] 39))
      fun e w' => (∃ sv l, e = .returned (.agg #[sv]) ∧ SubAt sv l w' ∧ Sb 56 4 (app l) l) ∧ (BoxT b11 t pa ca w' ∧ BoxS w6.heap.size sx lx w') ∧ GP vC dC w' ∧ Below w.heap.size w w' := by
  have b1 := below_a w6 (.cells #[sx] 39)
  have k1 := BoxS.new hx
  generalize w6.alloc (.cells #[sx] 39) = V at *
  refine (of_gp (hB.below b1)).mono ?_
  rintro e w' ⟨h1, hb⟩
  exact ⟨h1, ⟨(H1.below b1).below hb, k1.below hb⟩, (hC.below b1).below hb, (HB.trans (b1.mono HB.size)).trans (hb.mono (Nat.le_trans HB.size b1.size))⟩
theorem thl_three (w w7 : World) (b11 b12 : Nat) (t : T) (pa : Option Addr) (ca : Nat) (sx sy : Value) (lx ly : List PR) (vC : Value) (dC : List PR) (HB : Below w.heap.size w w7) (H1 : BoxT b11 t pa ca w7) (H2 : BoxS b12 sx lx w7) (hy : SubAt sy ly w7) (hC : GP vC dC w7) :
    Calls Try.prog 11 #[vC] (w7.alloc (.cells #[sy] 39))
      fun e w' => (∃ sv l, e = .returned (.agg #[sv]) ∧ SubAt sv l w' ∧ Sb 56 4 (app l) l) ∧ (BoxT b11 t pa ca w' ∧ BoxS b12 sx lx w' ∧ BoxS w7.heap.size sy ly w') ∧ Below w.heap.size w w' := by
  have b1 := below_a w7 (.cells #[sy] 39)
  have k1 := BoxS.new hy
  generalize w7.alloc (.cells #[sy] 39) = V at *
  refine (of_gp (hC.below b1)).mono ?_
  rintro e w' ⟨h1, hb⟩
  exact ⟨h1, ⟨(H1.below b1).below hb, (H2.below b1).below hb, k1.below hb⟩, (HB.trans (b1.mono HB.size)).trans (hb.mono (Nat.le_trans HB.size b1.size))⟩
theorem thl_start (w w8 : World) (b11 b12 b13 : Nat) (t : T) (pa : Option Addr) (ca : Nat) (sx sy sz : Value) (lx ly lz : List PR) (HB : Below w.heap.size w w8) (H1 : BoxT b11 t pa ca w8) (H2 : BoxS b12 sx lx w8) (H3 : BoxS b13 sy ly w8) (hz : SubAt sz lz w8) :
    SS w b11 b12 b13 w8.heap.size (w8.heap.size + 1) t pa ca sx sy sz lx ly lz (((w8.alloc (.cells #[sz] 39)).alloc (.cells #[.slice none 0 0] 39)).drew) := by
  have b1 := below_a w8 (.cells #[sz] 39)
  have k1 := BoxS.new hz
  have b2 := below_a (w8.alloc (.cells #[sz] 39)) (.cells #[.slice none 0 0] 39)
  have k2 : BoxS (w8.alloc (.cells #[sz] 39)).heap.size nilV [] ((w8.alloc (.cells #[sz] 39)).alloc (.cells #[.slice none 0 0] 39)) := BoxS.new (sub_nil _ _ _ (fun _ => rfl))
  have e : (w8.alloc (.cells #[sz] 39)).heap.size = w8.heap.size + 1 := by simp
  rw [e] at k2
  exact SS.below ⟨((H1.below b1).below b2), ⟨⟨(H2.below b1).below b2, (H3.below b1).below b2⟩, k1.below b2, k2⟩, (HB.trans (b1.mono HB.size)).trans (b2.mono (Nat.le_trans HB.size b1.size))⟩ (below_d _)
end Go.Proofs.Ytmbaolcdjgilpaa
