/- types.Vars: the free variables of a row of types. -/
import Derived.Test.YteoelcefjjmjiaaTyFind
import Derived.Carry
namespace Go.Proofs.Yteoelcefjjmjiaa
open Go.RowKit Go.Maps
attribute [local go_sem] Oper.semAt_some

theorem Nm.name {t : T} (h : Nm t) : t.name.size ≤ 1000 := by cases h; assumption
theorem Nm.kid {t k : T} (h : Nm t) (hk : k ∈ t.kids) : Nm k := by cases h with | mk _ _ h => exact h k hk

theorem look_var (n : ByteArray) (hn : n.size ≤ 1000) : LookOK (.var n) := by
  intro B p M K bd out a c w h ht hK hbd ho
  have hB : B ≤ w.heap.size := Nat.le_trans h.bp (Nat.le_of_lt h.lt.1)
  have hz : tsize (.var n) = 1 := by simp [tsize]
  rw [hz] at hK hbd ho
  by_cases hc : cnt bd out n = 0
  · have hno := cnt_zero.1 hc
    have e : fv bd out (.var n) = out ++ [n] := by rw [fv, if_neg hno]
    rw [e]
    refine (look_told (.var n) rfl rfl hn B p M K (cnt bd out) (cnt bd (out ++ [n])) out a c w hB h hc (by omega) (by omega) (fun m => ?_)).mono fun e w' ⟨h1, h2, h3, h4⟩ => ⟨h1, h2.mono (by omega), h3, h4⟩
    rw [cnt_told (fun hx => hno (.inr hx)), hc]
    rfl
  · have hyes : n ∈ bd ∨ n ∈ out := Classical.byContradiction fun hx => hc (cnt_zero.2 hx)
    have e : fv bd out (.var n) = out := by rw [fv, if_pos hyes]
    rw [e]
    exact (look_seen (.var n) rfl rfl hn B p M K (cnt bd out) out a c w hB h hc).mono fun e w' ⟨h1, h2, h3, h4⟩ => ⟨h1, h2.mono (by omega), h3, h4⟩
theorem look_ok (t : T) (hn : Nm t) : LookOK t := by
  have H : ∀ k ∈ t.kids, LookOK k := fun k hk => look_ok k (hn.kid hk)
  have hz := tsize_eq t
  cases t with
  | var n => exact look_var n hn.name
  | con n l =>
    intro B p M K bd out a c w h ht hK hbd ho
    have hB : B ≤ w.heap.size := Nat.le_trans h.bp (Nat.le_of_lt h.lt.1)
    rw [fv]
    exact (look_plain (.con n l) H (by simp [T.kind]) (by simp [T.kind]) B p M K bd out a c w hB h ht hK hbd ho).mono fun e w' ⟨h1, h2, h3, h4⟩ => ⟨h1, h2.mono (by omega), h3, h4⟩
  | fn x y =>
    intro B p M K bd out a c w h ht hK hbd ho
    have hB : B ≤ w.heap.size := Nat.le_trans h.bp (Nat.le_of_lt h.lt.1)
    have e : fv bd out (.fn x y) = fvs bd out (T.fn x y).kids := by simp [fv, T.kids, fvs]
    rw [e]
    exact (look_plain (.fn x y) H (by simp [T.kind]) (by simp [T.kind]) B p M K bd out a c w hB h ht hK hbd ho).mono fun e w' ⟨h1, h2, h3, h4⟩ => ⟨h1, h2.mono (by omega), h3, h4⟩
  | all n x =>
    intro B p M K bd out a c w h ht hK hbd ho
    have hB : B ≤ w.heap.size := Nat.le_trans h.bp (Nat.le_of_lt h.lt.1)
    have e : fv bd out (.all n x) = fvs ((T.all n x).name :: bd) out (T.all n x).kids := by simp [fv, T.kids, fvs, T.name]
    rw [e]
    exact (look_all (.all n x) H rfl hn.name B p M K bd out a c w hB h ht hK hbd ho).mono fun e w' ⟨h1, h2, h3, h4⟩ => ⟨h1, h2.mono (by omega), h3, h4⟩
termination_by SizeOf.sizeOf t
decreasing_by exact T.kid_size hk

/-- v is a slice of the texts l. -/
def TextsAt (w : World) (v : Value) (l : List ByteArray) : Prop :=
  ∃ a cap, v = .slice a l.length cap ∧ (l = [] ∨ ∃ g, a = some ⟨g, 0, none⟩ ∧ l.length ≤ cap ∧ ∃ cs fz, w.heap[g]? = some (.cells cs 9 fz) ∧ ∀ i (h : i < l.length), cs[i]? = some (.string l[i]))
theorem TextsAt.keep {w w' : World} {v : Value} {l : List ByteArray} (h : TextsAt w v l) (hk : ∀ (k : Nat) (cs : Array Value) (fz : Nat × Nat), w.heap[k]? = some (.cells cs 9 fz) → w'.heap[k]? = some (.cells cs 9 fz)) : TextsAt w' v l := by
  obtain ⟨a, cap, rfl, h⟩ := h
  refine ⟨a, cap, rfl, ?_⟩
  rcases h with h | ⟨g, e, hc, cs, fz, hg, hi⟩
  · exact .inl h
  · exact .inr ⟨g, e, hc, cs, fz, hk _ _ _ hg, hi⟩
theorem TextsAt.of_row {W : World} {base : Nat} {v : Value} {l : List ByteArray} (h : W.ownsRow base 9 1 v l.length (l.map Value.string)) : TextsAt W v l := by
  rcases h.2 with ⟨rfl, h0⟩ | ⟨g, cap, cur, rfl, _, hg, hc, hm, hcs, htk⟩
  · have : l = [] := List.length_eq_zero_iff.1 h0
    subst this
    exact ⟨none, 0, rfl, .inl rfl⟩
  · refine ⟨_, cap, rfl, .inr ⟨g, rfl, hc, cur, _, hg, fun i hi => ?_⟩⟩
    have e : (cur.toList.take (l.length * 1))[i]? = (l.map Value.string)[i]? := by rw [htk]
    rw [List.getElem?_take, if_pos (by omega), Array.getElem?_toList] at e
    simpa [hi] using e
theorem find_start (w : World) : FindAt w.heap.size (w.heap.size + 1) w.heap.size 0 (cnt [] []) [] ((w.alloc (.map #[] 0)).alloc (.cells #[.map (some w.heap.size), .slice none 0 0] 62)) := by
  refine ⟨by omega, Nat.le_refl _, ⟨.slice none 0 0, by have := alloc_new (w.alloc (.map #[] 0)) (.cells #[.map (some w.heap.size), .slice none 0 0] 62); simpa using this, ?_⟩, ⟨0, Nat.le_refl _, .map [], isMap_empty, ?_, fun n _ => ?_⟩⟩
  · exact ⟨by simp, .inl ⟨rfl, rfl⟩⟩
  · exact (World.ownsMap_made w Try.prog 9 _).alloc _
  · simp [DataW.atKey, cnt, cntB, inB]

set_option maxHeartbeats 2000000 in
theorem vars_any (l : List T) (hn : ∀ k ∈ l, Nm k) (hs : tsizes l ≤ 100000000) (a : Option Addr) (c : Nat) (w : World) (ht : TysAt w (.slice a l.length c) l) :
    Calls Try.prog 11 #[.slice a l.length c] w fun e w' => (∃ v, e = .returned v ∧ TextsAt w' v (fvs [] [] l)) ∧ KeepT w w' ∧ Below w.heap.size w w' := by
  have hlen := len_sizes' l
  have HF := Lib.hid (find_start w)
  have HB0 := Lib.hid (show ∀ o1 o2 : Obj, KeepT w ((w.alloc o1).alloc o2) ∧ Below w.heap.size w ((w.alloc o1).alloc o2) from fun o1 o2 => ⟨(keepT_alloc w o1).trans (keepT_alloc _ o2), ((Below.refl _ w).alloc (Nat.le_refl _) _).alloc (by simp) _⟩)
  have HR := Lib.hid ht.part
  have HS := Lib.hid (fun k (hk : k ∈ l) => look_ok k (hn k hk))
  clear hn ht
  have hmm := @run_makeMap Try.prog
  go_enter Try.func11, Try.ntmps11
  go_wp2
  go_loopw [10] (fun vi wr => ∃ i : Nat, i ≤ l.length ∧ vi = .int .i64 i ∧ Hid (FindAt w.heap.size (w.heap.size + 1) w.heap.size (2 * tsizes (l.take i)) (cnt [] (fvs [] [] (l.take i))) (fvs [] [] (l.take i)) wr ∧ KeepT w wr ∧ Below w.heap.size w wr)) (fun vi _ => l.length - (intOf vi).toNat)
  case atStart => exact ⟨0, Nat.zero_le _, rfl, Lib.hid (by simpa [fvs, tsizes] using ⟨HF.out, HB0.out _ _⟩)⟩
  case round =>
    obtain ⟨i, hi, rfl, hF⟩ := hrel
    by_cases hlt : i < l.length
    · obtain ⟨g, pa, ca, rfl, hcap, hr⟩ := HR.out i hlt
      obtain ⟨hF1, hKT, hBl⟩ := hF.out
      obtain ⟨⟨hg, x0, x1, x2⟩, xk⟩ := hr wr hKT
      have hsz := tsizes_take l i hlt
      have hl1 := fvs_len (l.take i) [] []
      have hkk := size_mem' (List.getElem_mem hlt)
      have hBw : w.heap.size ≤ wr.heap.size := hBl.size
      have HC := Lib.hid (fun o => HS.out l[i] (List.getElem_mem hlt) w.heap.size (w.heap.size + 1) w.heap.size (2 * tsizes (l.take i)) [] (fvs [] [] (l.take i)) pa ca (wr.alloc o) (hF1.alloc o) (xk.keep (keepT_alloc wr o)) (by omega) (by simp only [List.length_nil]; omega) (by simp only [List.length_nil] at hl1; omega))
      rw [← fvs_drop [] [] l i hlt, show 2 * tsizes (l.take i) + 2 * tsize l[i] = 2 * tsizes (l.take (i + 1)) by omega] at HC
      have HX := Lib.hid (fun (o : Obj) (W : World) (h1 : KeepT (wr.alloc o) W) (h2 : Below w.heap.size (wr.alloc o) W) => (⟨(hKT.trans (keepT_alloc wr o)).trans h1, (hBl.alloc hBw o).trans h2⟩ : KeepT w W ∧ Below w.heap.size w W))
      clear hr hF hF1 xk hBl hsz hl1 hkk HS HR HF HB0
      generalize l[i] = u at x0 x1 x2 HC
      simp only [tyV] at HC
      have hlt1 : ((i : Int) < (l.length : Int)) := by omega
      go_wp2_with (go_at_call 34; refine (HC.out _).mono ?_; rintro e w2 ⟨rfl, r1, r2, r3⟩; have HW2 := Lib.hid (And.intro r1 (HX.out _ _ r2 r3)); clear r1 r2 r3)
      refine ⟨⟨i + 1, by omega, by go_num, HW2⟩, ?_⟩
      simp [intOf]; omega
    · obtain rfl : i = l.length := by omega
      rw [List.take_length] at hF
      obtain ⟨hF1, hKT, hBl⟩ := hF.out
      obtain ⟨v, hv, hown⟩ := hF1.fin
      have c1 : wr.cell? ⟨w.heap.size + 1, 1, none⟩ = some v := by rw [Lib.cell_of_heap hv]; rfl
      obtain ⟨a1, cap1, rfl⟩ := row_slice hown
      have HT := Lib.hid (TextsAt.of_row hown)
      have HK := Lib.hid hKT; have HBl := Lib.hid hBl
      clear hF hF1 hown hv hKT hBl
      go_wp2
      go_ret
      exact ⟨⟨_, rfl, HT.out⟩, HK.out, HBl.out⟩
end Go.Proofs.Yteoelcefjjmjiaa
