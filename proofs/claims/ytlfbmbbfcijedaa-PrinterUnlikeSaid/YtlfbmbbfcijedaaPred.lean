/- Predicates in memory, and what the printer writes of one, of some, of a context. -/
import Derived.Test.YtlfbmbbfcijedaaTypeText
namespace Go.Proofs.Ytlfbmbbfcijedaa
open Go.RowKit
attribute [local go_sem] Oper.semAt_some

abbrev Pr := ByteArray × T
def prV (p : Pr) (v : Value) : Value := .agg #[.string p.1, .int .i64 p.2.kind, .string p.2.name, v]
/-- v is a slice of the predicates l. -/
def PrsAt (w : World) (v : Value) (l : List Pr) : Prop :=
  (l = [] ∧ ∃ a c, v = .slice a 0 c) ∨ ∃ g cap cs fz, ∃ u : Nat → Value, v = .slice (some ⟨g, 0, none⟩) l.length cap ∧ w.heap[g]? = some (.cells cs 42 fz) ∧ l.length ≤ cap ∧
    ∀ i (h : i < l.length), (cs[i * 4]? = some (.string l[i].1) ∧ cs[i * 4 + 1]? = some (.int .i64 l[i].2.kind) ∧ cs[i * 4 + 2]? = some (.string l[i].2.name) ∧ cs[i * 4 + 3]? = some (u i)) ∧ TysAt w (u i) l[i].2.kids
def KeepP (w w' : World) : Prop := ∀ (k : Nat) (cs : Array Value) (fz : Nat × Nat), w.heap[k]? = some (.cells cs 42 fz) → w'.heap[k]? = some (.cells cs 42 fz)
theorem KeepP.trans {a b c : World} (h : KeepP a b) (k : KeepP b c) : KeepP a c := fun i cs fz hi => k i cs fz (h i cs fz hi)
theorem KeepP.of_below {w w' : World} (h : Below w.heap.size w w') : KeepP w w' := fun k _ _ hk => (h.block k (Array.getElem?_eq_some_iff.1 hk).1).trans hk
theorem KeepP.of_put {b : Nat} {l : List UInt8} {w w' : World} (h : PutFr b w w') (hb : Bld b l w) : KeepP w w' := by
  intro k cs fz hk
  refine h.2 k _ hk ?_ (fun c f e => by cases e)
  intro e
  cases e
  rcases hb with ⟨_, v, hv, _⟩ | ⟨_, v, hv, _⟩ <;> (rw [hk] at hv; simp at hv)
theorem keepP_alloc (w : World) (o : Obj) : KeepP w (w.alloc o) := .of_below ((Below.refl _ w).alloc (Nat.le_refl _) o)
theorem PrsAt.keep {w w' : World} (hk : KeepT w w') (hp : KeepP w w') {v : Value} {l : List Pr} (h : PrsAt w v l) : PrsAt w' v l := by
  rcases h with h | ⟨g, cap, cs, fz, u, rfl, h1, h2, h3⟩
  · exact .inl h
  · exact .inr ⟨g, cap, cs, fz, u, rfl, hp _ _ _ h1, h2, fun i hi => ⟨(h3 i hi).1, (h3 i hi).2.keep hk⟩⟩
theorem PrsAt.shape {w : World} {v : Value} {l : List Pr} (h : PrsAt w v l) : ∃ a c, v = .slice a l.length c := by
  rcases h with ⟨rfl, a, c, rfl⟩ | ⟨g, cap, cs, fz, u, rfl, _⟩
  · exact ⟨a, c, rfl⟩
  · exact ⟨_, _, rfl⟩
theorem PrsAt.row {w : World} {v : Value} {l : List Pr} (h : PrsAt w v l) (h0 : l ≠ []) : ∃ g cap, v = .slice (some ⟨g, 0, none⟩) l.length cap ∧ g < w.heap.size ∧ l.length ≤ cap ∧
    ∀ i (h : i < l.length), ∃ a c, w.cell? ⟨g, i * 4, none⟩ = some (.string l[i].1) ∧ w.cell? ⟨g, i * 4 + 1, none⟩ = some (.int .i64 l[i].2.kind) ∧ w.cell? ⟨g, i * 4 + 2, none⟩ = some (.string l[i].2.name) ∧ w.cell? ⟨g, i * 4 + 3, none⟩ = some (.slice a l[i].2.kids.length c) ∧
      TysAt w (.slice a l[i].2.kids.length c) l[i].2.kids := by
  rcases h with ⟨h, _⟩ | ⟨g, cap, cs, fz, u, rfl, h1, h2, h3⟩
  · exact absurd h h0
  · refine ⟨g, cap, rfl, (Array.getElem?_eq_some_iff.1 h1).1, h2, fun i hi => ?_⟩
    obtain ⟨⟨c0, c1, c2, c3⟩, ht⟩ := h3 i hi
    obtain ⟨a, c, e⟩ := ht.shape
    rw [e] at c3 ht
    refine ⟨a, c, ?_, ?_, ?_, ?_, ht⟩
    · simp only [World.cell?, h1]; simpa using c0
    · simp only [World.cell?, h1]; simpa using c1
    · simp only [World.cell?, h1]; simpa using c2
    · simp only [World.cell?, h1]; simpa using c3
theorem four_cells {w : World} {p : Nat} {x y z u : Value} {T : TypeId} {fz : Nat × Nat} (h : w.heap[p]? = some (.cells #[x, y, z, u] T fz)) : w.cell? ⟨p, 0, none⟩ = some x ∧ w.cell? ⟨p, 1, none⟩ = some y ∧ w.cell? ⟨p, 2, none⟩ = some z ∧ w.cell? ⟨p, 3, none⟩ = some u := by
  refine ⟨?_, ?_, ?_, ?_⟩ <;> (rw [Lib.cell_of_heap h]; rfl)

def prText (p : Pr) : List UInt8 := p.1.data.toList ++ ([32] ++ T.arg p.2)
theorem arg_of {t : T} (hf : Fits t) (b : Nat) (l : List UInt8) (v : Value) (w : World) (hb : Bld b l w) (hv : TysAt w v t.kids) (hn : l.length + (T.arg t).length ≤ room) :
    Calls Try.prog 29 #[.pointer (some ⟨b, 0, none⟩), tyV t v] w fun e w' => e = .returned (.tuple #[]) ∧ Bld b (l ++ T.arg t) w' ∧ PutFr b w w' := putArgument_of t (put_ok hf) b l v w hb hv hn

set_option maxHeartbeats 1000000 in
theorem putPred_any (p : Pr) (hf : Fits p.2) (b : Nat) (l : List UInt8) (v : Value) (w : World) (hb : Bld b l w) (hv : TysAt w v p.2.kids) (hn : l.length + (prText p).length ≤ room) :
    Calls Try.prog 35 #[.pointer (some ⟨b, 0, none⟩), prV p v] w fun e w' => e = .returned (.tuple #[]) ∧ Bld b (l ++ prText p) w' ∧ PutFr b w w' := by
  obtain ⟨a, c, rfl⟩ := hv.shape
  obtain ⟨n, t⟩ := p
  have hbw := hb.lt
  have HA := Lib.hid (arg_of hf b)
  have HB := Lib.hid hb.alloc
  have HV := Lib.hid hv
  have hn' : l.length + (n.size + (1 + (T.arg t).length)) ≤ room := by
    unfold prText at hn; simp only [List.length_append, List.length_cons, List.length_nil, ← Lib.size_eq] at hn; omega
  have HN := Lib.hid hn'
  have HNe := Lib.hid (show w.heap.size ≠ b by omega)
  clear hf hb hv hn hn'
  simp only [prV, tyV] at HA HV ⊢
  go_enter Try.func35, Try.ntmps35
  go_wp2_with (go_at_call 27; refine (write_any b l _ _ (HB.out _) ?_).mono ?_)
  · have := HN.out; unfold room at this; omega
  rintro e w2 ⟨rfl, h1, h2⟩
  have k2 := h2.keeps (alloc_new w _) HNe.out (by decide)
  have K2 := Lib.hid k2; clear k2
  have H1 := Lib.hid h1
  have H2 := Lib.hid ((PutFr.alloc hbw _).trans h2)
  have HV2 := Lib.hid (HV.out.keep ((keepT_alloc w _).trans (KeepT.of_put h2 (HB.out _))))
  clear h1 h2
  go_wp2_with (go_at_call 27; refine (write_lit b _ [32] _ H1.out ?_).mono ?_)
  · have := HN.out; simp only [List.length_append, List.length_cons, List.length_nil, ← Lib.size_eq]; omega
  rintro e w3 ⟨⟨v1, rfl⟩, h1, h2⟩
  obtain ⟨d0, d1, d2, d3⟩ := four_cells (h2.keeps K2.out HNe.out (by decide))
  have H3 := Lib.hid h1
  have H4 := Lib.hid h2
  have HV3 := Lib.hid (HV2.out.keep (KeepT.of_put h2 H1.out))
  clear h1 h2
  go_wp2_with (go_at_call 29; refine (HA.out _ _ _ H3.out HV3.out ?_).mono ?_)
  · have := HN.out; simp only [List.length_append, List.length_cons, List.length_nil, ← Lib.size_eq]; omega
  rintro e w4 ⟨rfl, h1, h2⟩
  have H5 := Lib.hid h1
  have H6 := Lib.hid h2
  clear h1 h2
  go_wp2
  go_end0
  refine ⟨rfl, ?_, (H2.out.trans H4.out).trans H6.out⟩
  have := H5.out
  unfold prText
  simpa only [List.append_assoc] using this
end Go.Proofs.Ytlfbmbbfcijedaa
