/- Rows that grow beside the reader; the names that stand ahead. -/
import Derived.Test.YtdooeghicdaakaaGreatDoorParName
import Derived.Maps.AppendAt
import Derived.OwnWalk
namespace Go.Proofs.YtdooeghicdaakaaGreatDoor
open Go.RowKit
attribute [local go_sem] Oper.semAt_some field_tok0 field_tok1 field_tok2

theorem Rd.grown {c : Cx} {q : Er} {R : Nat} {s : St} {W W' : World} {base : Nat} {e : TypeId} {size : Nat} {v : Value} {n : Nat} {xs : List Value} (h : Rd c q R s W) (hown : W.ownsRow base e size v n xs) (hg : W.grownBy W' v.ownBlock) (hb : R < base) (he : e ≠ 90) : Rd c q R s W' := by
  have hR := h.lt
  have hlow : ∀ k, k < base → k < W.heap.size → W'.heap[k]? = W.heap[k]? := fun k hk hl => hg.block k hl fun ee => by have := (hown.lt k ee.symm).1; omega
  have hbel : Below R W W' := ⟨hg.os, hg.tape, hg.output, hg.size, fun k hk => hlow k (by omega) (by omega)⟩
  obtain ⟨⟨sv, fv, h1, h2, h3⟩, ⟨e1, e2⟩, ⟨g1, g2⟩, h5⟩ := h
  refine ⟨⟨sv, fv, (hlow R hb hR).trans h1, h2.keep hbel, h3.keep (fun k cs hk => (hg.block k (Array.getElem?_eq_some_iff.1 hk).1 fun ee => ?_).trans hk)⟩, ⟨?_, ?_⟩, ⟨g1, g2⟩, h5⟩
  · rcases hown.2 with ⟨rfl, _⟩ | ⟨g, cap, cur, rfl, _, hgb, _⟩
    · cases ee
    · obtain rfl : k = g := by simpa [Value.ownBlock] using ee
      rw [hk] at hgb
      cases hgb
      exact he rfl
  · exact (hbel.cell (p := ⟨0, 0, none⟩) g1).trans e1
  · exact (hbel.cell (p := ⟨1, 0, none⟩) g2).trans e2
theorem Fr.grown {R : Nat} {w W W' : World} {base : Nat} {e : TypeId} {size : Nat} {v : Value} {n : Nat} {xs : List Value} (h : Fr R w W) (hown : W.ownsRow base e size v n xs) (hg : W.grownBy W' v.ownBlock) (hR : R < w.heap.size) (hb : w.heap.size ≤ base) : Fr R w W' := by
  have hsz := h.size
  have hlow : ∀ k, k < w.heap.size → W'.heap[k]? = W.heap[k]? := fun k hk => hg.block k (by omega) fun ee => by have := (hown.lt k ee.symm).1; omega
  exact ⟨h.1.trans ⟨hg.os, hg.tape, hg.output, hg.size, fun k hk => hlow k (by omega)⟩, fun k o hk hn => (hlow k (Array.getElem?_eq_some_iff.1 hk).1).trans (h.2 k o hk hn)⟩
theorem own_fr {w w' : World} {R base : Nat} {e : TypeId} {size : Nat} {v : Value} {n : Nat} {xs : List Value} (h : w.ownsRow base e size v n xs) (hk : Fr R w w') (hp : R < base) : w'.ownsRow base e size v n xs := by
  refine ⟨h.1, ?_⟩
  rcases h.2 with h | ⟨g, cap, cur, rfl, hb, hg, r⟩
  · exact .inl h
  · exact .inr ⟨g, cap, cur, rfl, hb, hk.2 g _ hg (by omega), r⟩
theorem row_shape {W : World} {base : Nat} {e : TypeId} {size : Nat} {v : Value} {n : Nat} {xs : List Value} (h : W.ownsRow base e size v n xs) : ∃ a c, v = .slice a n c := by
  rcases h.2 with ⟨rfl, rfl⟩ | ⟨g, cap, _, rfl, _⟩
  · exact ⟨_, _, rfl⟩
  · exact ⟨_, _, rfl⟩
theorem cell_new1 (w : World) (x : Value) (t : TypeId) : ∀ j v, [x][j]? = some v → (w.alloc (.cells #[x] t)).cell? ((⟨w.heap.size, 0, none⟩ : Addr).add j) = some v := by
  intro j u hu
  have hadd : (⟨w.heap.size, 0, none⟩ : Addr).add j = ⟨w.heap.size, j, none⟩ := by unfold Addr.add; split <;> simp_all
  rw [hadd]
  have := World.alloc_heap_new w (.cells #[x] t)
  simp only [World.cell?, this]
  match j, hu with
  | 0, hu => simpa using hu
  | n + 1, hu => simp at hu

/-- v is a slice of the texts l. -/
def TextsAt (w : World) (v : Value) (l : List ByteArray) : Prop :=
  ∃ a cap, v = .slice a l.length cap ∧ (l = [] ∨ ∃ g, a = some ⟨g, 0, none⟩ ∧ l.length ≤ cap ∧ ∃ cs fz, w.heap[g]? = some (.cells cs 9 fz) ∧ ∀ i (h : i < l.length), cs[i]? = some (.string l[i]))
theorem TextsAt.keep {w w' : World} {v : Value} {l : List ByteArray} (h : TextsAt w v l) (hk : ∀ (k : Nat) (cs : Array Value) (fz : Nat × Nat), w.heap[k]? = some (.cells cs 9 fz) → w'.heap[k]? = some (.cells cs 9 fz)) : TextsAt w' v l := by
  obtain ⟨a, cap, rfl, h⟩ := h
  refine ⟨a, cap, rfl, ?_⟩
  rcases h with h | ⟨g, e, hc, cs, fz, hg, hi⟩
  · exact .inl h
  · exact .inr ⟨g, e, hc, cs, fz, hk _ _ _ hg, hi⟩
theorem TextsAt.of_row {W : World} {base : Nat} {v : Value} {l : List ByteArray} (h : W.ownsRow base 9 1 v l.length (l.map Value.string)) : TextsAt W v l := by
  rcases h.2 with ⟨rfl, h0⟩ | ⟨g, cap, cur, rfl, _, hg, hc, hm, hcs, htk⟩
  · have : l = [] := List.length_eq_zero_iff.1 h0
    subst this
    exact ⟨none, 0, rfl, .inl rfl⟩
  · refine ⟨_, cap, rfl, .inr ⟨g, rfl, hc, cur, _, hg, fun i hi => ?_⟩⟩
    have e : (cur.toList.take (l.length * 1))[i]? = (l.map Value.string)[i]? := by rw [htk]
    rw [List.getElem?_take, if_pos (by omega), Array.getElem?_toList] at e
    simpa [hi] using e

theorem Tryz.info9s : (Tryz.prog.info? 9).map (fun i => (i.zero, i.size, i.bytes)) = some (some (.string ⟨#[]⟩), 1, 16) := by kernel_rfl

/-- What a reading method leaves: a value, the reader's new state, the frame. -/
theorem nameP_next (c : Cx) (s : St) (h : begVar c s = true) : left c (nameP c s).2 < left c s := by
  have hlt : s.next < c.ws.length := by
    unfold begVar at h
    simp only [Bool.or_eq_true, Bool.and_eq_true, decide_eq_true_eq] at h
    rcases h with h | ⟨_, h2⟩
    · exact kind_lt (k := 1) (by decide) h
    · by_cases hl : s.next + 1 < c.ws.length
      · omega
      · rw [ahead_ge c s 1 hl] at h2; simp at h2
  have hw : ∀ t : St, left c (wrongS c t) = 0 := fun t => by simp [left, wrongS, failS]
  have ht : ∀ (t : St) (k : Int), left c (takeP c t k).2 ≤ left c t := fun t k => by
    unfold takeP
    split
    · simp [left, step]; omega
    · rw [hw]; omega
  have ht' : ∀ (t : St) (k : Int), t.next < c.ws.length → left c (takeP c t k).2 < left c t := fun t k hk => by
    unfold takeP
    split
    · simp [left, step]; omega
    · rw [hw]; simp [left]; omega
  have hne : ∀ (t : St) (x : List UInt8), left c (needS c t x) ≤ left c t := fun t x => by
    unfold needS
    split
    · simp [left, step]; omega
    · rw [hw]; omega
  have hne' : ∀ (t : St) (x : List UInt8), t.next < c.ws.length → left c (needS c t x) < left c t := fun t x hk => by
    unfold needS
    split
    · simp [left, step]; omega
    · rw [hw]; simp [left]; omega
  unfold nameP
  split
  · simp only [inBr]
    have := hne (takeP c (needS c s [40]) 5).2 [41]
    have := ht (needS c s [40]) 5
    have := hne' s [40] hlt
    omega
  · exact ht' s 1 hlt

/-- How many words are left, off the reader's block. -/
def leftOf (c : Cx) (R : Nat) (w : World) : Nat := c.ws.length - (match w.cell? ⟨R, 1, none⟩ with | some (.int _ n) => n.toNat | _ => 0)
theorem Rd.leftOf {c : Cx} {q : Er} {R : Nat} {s : St} {w : World} (h : Rd c q R s w) : leftOf c R w = left c s := by
  obtain ⟨_, _, _, ⟨_, c1, _⟩, _⟩ := h.open
  simp [Go.Proofs.YtdooeghicdaakaaGreatDoor.leftOf, c1, left]
theorem varsP_step (c : Cx) (n : Nat) (l : List ByteArray) (s : St) (h : begVar c s = true) : varsP c (n + 1) l s = varsP c n (l ++ [(nameP c s).1.text]) (nameP c s).2 := by rw [varsP]; simp [h]
theorem varsP_stop (c : Cx) (n : Nat) (l : List ByteArray) (s : St) (h : begVar c s = false) : varsP c n l s = (l, s) := by cases n <;> simp [varsP, h]

set_option maxRecDepth 100000 in
set_option maxHeartbeats 4000000 in
theorem variables_any (c : Cx) (q : Er) (R : Nat) (s : St) (w : World) (h : Rd c q R s w) :
    Calls Tryz.prog 30 #[.pointer (some ⟨R, 0, none⟩)] w fun e w' => (∃ v, e = .returned v ∧ TextsAt w' v (variablesP c s).1) ∧ Rd c q R (variablesP c s).2 w' ∧ Fr R w w' := by
  obtain ⟨i0, hi, hz0, hz1, hz2⟩ := info_parts Tryz.info9s
  have hR := h.lt
  have hn3 := h.2.2.2.2.2
  have hn := h.2.2.2.1
  have H := Lib.hid h; clear h
  unfold variablesP
  obtain ⟨res, hres⟩ : ∃ res, varsP c (left c s + 1) [] s = res := ⟨_, rfl⟩
  have HRes := Lib.hid hres
  rw [hres]; clear hres
  have hL : left c s ≤ 20000 := by unfold left; omega
  go_enter Tryz.func30, Tryz.ntmps30
  go_wp2
  go_loopw [3] (fun vl wr => ∃ (l : List ByteArray) (s1 : St) (k : Nat), Hid (varsP c k l s1 = res) ∧ (left c s1 < k ∧ k + l.length ≤ 20001) ∧ Hid (wr.ownsRow w.heap.size 9 1 vl l.length (l.map Value.string)) ∧ Hid (Rd c q R s1 wr) ∧ Hid (Fr R w wr)) (fun _ wr => leftOf c R wr)
  case atStart => exact ⟨[], s, left c s + 1, HRes, ⟨by omega, by simp; omega⟩, Lib.hid (World.ownsRow_nil _ _ _ _), H, Lib.hid (Fr.refl _ _)⟩
  case round =>
    obtain ⟨l, s1, k, hv, ⟨hk, hkl⟩, hrow, hrd, hfr⟩ := hrel
    have HBv := Lib.hid (begVar_any c q R s1 _ hrd.out)
    cases hb : begVar c s1 with
    | true =>
      rw [hb] at HBv
      obtain ⟨k', rfl⟩ : ∃ k', k = k' + 1 := ⟨k - 1, by omega⟩
      have HV := Lib.hid ((varsP_step c k' l s1 hb).symm.trans hv.out)
      have HNx := Lib.hid (nameP_next c s1 hb)
      have HM := Lib.hid (hrd.out.leftOf)
      have HNm := Lib.hid (fun W (h : Rd c q R s1 W) => name_any' c q R s1 W h)
      clear hb hv
      obtain ⟨x, hx⟩ : ∃ x, nameP c s1 = x := ⟨_, rfl⟩
      rw [hx] at HV HNx HNm; clear hx
      obtain ⟨y, s2⟩ := x
      simp only at HV HNx HNm
      go_wp2_with (first
        | (go_at_call 47; refine HBv.out.mono ?_; rintro e w2 ⟨rfl, hb2⟩; have R2 := Lib.hid (hrd.out.below hb2); have F2 := Lib.hid (hfr.out.trans (Fr.of_below hb2 (Nat.le_of_lt hrd.out.lt))); have O2 := Lib.hid (own_fr hrow.out (Fr.of_below hb2 (Nat.le_of_lt hrd.out.lt)) hR); clear hb2)
        | (go_at_call 48; refine (HNm.out _ R2.out).mono ?_; rintro e w3 ⟨rfl, h3, f3⟩; rw [wdV_eq]; have R3 := Lib.hid h3; have O3 := Lib.hid (own_fr O2.out f3 hR); have F3 := Lib.hid (F2.out.trans f3); clear h3 f3)
        | (at_builtin; refine wpList_append_own _ rfl _ _ 23 rfl w.heap.size 9 i0 (.string ⟨#[]⟩) 1 16 Tryz.underlying23 hi hz0 hz1 hz2 rfl (by decide) _ _ _ rfl (O3.out.alloc _) ⟨w3.heap.size, 0, none⟩ 1 1 [.string y.text] rfl rfl (cell_new1 _ _ _) (by simp [Value.oneCell']) (by unfold maxLen; omega) (by omega) (by have := F3.out.size; simp; omega) ?_; intro v' w4 hown' hgrow _; have O4 := Lib.hid hown'; have R4 := Lib.hid ((R3.out.alloc _).grown (O3.out.alloc _) hgrow hR (by decide)); have F4 := Lib.hid ((F3.out.alloc hR _).grown (O3.out.alloc _) hgrow hR (Nat.le_refl _)); clear hown' hgrow))
      go_roundw
      case rel => exact ⟨l ++ [y.text], s2, k', HV, ⟨by have := HNx.out; omega, by simp; omega⟩, Lib.hid (by rw [List.map_append, List.length_append]; exact O4.out), R4, F4⟩
      case measure => rw [R4.out.leftOf, HM.out]; exact HNx.out
    | false =>
      rw [hb] at HBv
      have HV := Lib.hid ((varsP_stop c k l s1 hb).symm.trans hv.out)
      clear hb hv
      obtain ⟨va, vc, rfl⟩ := row_shape hrow.out
      go_wp2_with (first
        | (go_at_call 47; refine HBv.out.mono ?_; rintro e w2 ⟨rfl, hb2⟩; have R2 := Lib.hid (hrd.out.below hb2); have F2 := Lib.hid (hfr.out.trans (Fr.of_below hb2 (Nat.le_of_lt hrd.out.lt))); have O2 := Lib.hid (own_fr hrow.out (Fr.of_below hb2 (Nat.le_of_lt hrd.out.lt)) hR); clear hb2))
      go_ret
      rw [← HV.out]
      exact ⟨⟨_, rfl, TextsAt.of_row O2.out⟩, R2.out, F2.out⟩
end Go.Proofs.YtdooeghicdaakaaGreatDoor
