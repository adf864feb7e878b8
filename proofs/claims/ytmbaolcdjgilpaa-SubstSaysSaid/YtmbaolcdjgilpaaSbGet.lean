/- (Subst).Get. -/
import Derived.Test.YtmbaolcdjgilpaaSbOthersA
namespace Go.Proofs.Ytmbaolcdjgilpaa
open Go.RowKit Go.Sort Go.Lib
attribute [local go_sem] Oper.semAt_some

set_option maxHeartbeats 2000000 in
/-- Get of a name that has a type. -/
theorem get_some {v : Value} {d : List PR} {n : ByteArray} {x : PR} {w : World} (h : SubAt v d w) (hl : d.length < 1000000) (hx : lk n d = some x) (hs : tsize x.t ≤ 1000000000) :
    Calls Try.prog 12 #[.agg #[v], .string n] w fun e w' => (∃ za zc, e = .returned (.tuple #[.agg #[.int .i64 x.t.kind, .string x.t.name, .slice za x.t.kids.length zc], .bool true]) ∧ TysAt w' (.slice za x.t.kids.length zc) x.t.kids) ∧ Below w.heap.size w w' := by
  have hm := (lk_name hx).1
  have HF := Lib.hid (fun (V : World) (hb : Below w.heap.size w V) => find_any v d n V (h.below hb) (by omega))
  simp only [hx, fv', Option.isSome_some] at HF
  have HT := Lib.hid (h.2 x hm)
  obtain ⟨av, cv, rfl⟩ := h.shape
  clear h hx
  go_enter Try.func12, Try.ntmps12
  go_wp2_with (go_at_call 32; refine (HF.out _ (below_two w _ _)).mono ?_)
  rintro e w2 ⟨rfl, hb2⟩
  have hbw : Below w.heap.size w w2 := (below_two w _ _).trans (hb2.mono (by simp; omega))
  have hz := (hb2.block (w.heap.size + 1) (by simp)).trans (new_two w _ _)
  have HZ := Lib.hid hz; have HB := Lib.hid hbw
  have lz := (Array.getElem?_eq_some_iff.1 hz).1
  have HO := Lib.hid (own_any (w := w2.alloc (.cells #[.int .i64 x.t.kind, .string x.t.name, .slice x.a x.t.kids.length x.c] 34)) hs (HT.out.keep (KeepT.of_below (hbw.alloc hbw.size _))))
  clear hb2 hbw hz HF HT
  simp only [ResT, tyV] at HO
  go_wp2_with (go_at_call 31; refine HO.out.mono ?_)
  rintro e w3 ⟨⟨a2, c2, rfl, g1⟩, g2⟩
  have hz3 := (g2.block (w.heap.size + 1) (by simp; omega)).trans ((Below.heap_alloc _ _ _ lz).trans HZ.out)
  obtain ⟨z0, z1, z2⟩ := three_cells hz3
  have u0 := Lib.frozen_of_heap hz3 0
  have u1 := Lib.frozen_of_heap hz3 1
  have u2 := Lib.frozen_of_heap hz3 2
  have HZ3 := Lib.hid hz3; have G1 := Lib.hid g1.tys; have HB3 := Lib.hid ((HB.out.alloc HB.out.size _).trans (g2.mono (by have := HB.out.size; simp; omega)))
  clear g1 g2 hz3 HO HZ HB lz
  go_wp2
  have hs3 := set3_block HZ3.out (.int .i64 x.t.kind) (.string x.t.name) (.slice a2 x.t.kids.length c2)
  have hc := three_cells hs3
  refine bodyPost_ret (v := .tuple #[.agg #[.int .i64 x.t.kind, .string x.t.name, .slice a2 x.t.kids.length c2], .bool true]) (by simp [results, Try.results12, go_sem, hc.1, hc.2.1, hc.2.2]) rfl ⟨⟨a2, c2, rfl, ?_⟩, ?_⟩
  · exact G1.out.elsewhere HZ3.out (fun _ hj => set3_others _ _ _ hj)
  · exact below_set3 HB3.out (Nat.le_succ _) _ _ _
end Go.Proofs.Ytmbaolcdjgilpaa
