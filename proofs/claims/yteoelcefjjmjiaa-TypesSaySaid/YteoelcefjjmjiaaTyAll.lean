/- types.All: the parts of a type, told one by one. -/
import Derived.Test.YteoelcefjjmjiaaTyFun
import Derived.Test.YteoelcefjjmjiaaTySize
import Derived.Test.YteoelcefjjmjiaaRange
namespace Go.Proofs.Yteoelcefjjmjiaa
open Go.RowKit
attribute [local go_sem] Oper.semAt_some

/-- What is told: a type, where its row lies. -/
abbrev Tl := T × Option Addr × Nat
def encA (x : Tl) : Array Value := #[.agg #[.int .i64 x.1.kind, .string x.1.name, .slice x.2.1 x.1.kids.length x.2.2]]
/-- Its rows are new since the last round. -/
def ExA (whole : List T) (pre : List Tl) (x : Tl) (X0 X : World) : Prop := (TyIn (fun k => X0.heap.size ≤ k) X x.1 (.slice x.2.1 x.1.kids.length x.2.2) ∧ tsize x.1 ≤ 1000000000) ∧ ∃ r, pre.map (·.1) ++ x.1 :: r = whole
def KeepK (K : Nat → Prop) (X W : World) : Prop := ∀ k, K k → k < X.heap.size → W.heap[k]? = X.heap[k]?
theorem KeepK.trans {K : Nat → Prop} {X Y Z : World} (h : KeepK K X Y) (k : KeepK K Y Z) (hs : X.heap.size ≤ Y.heap.size) : KeepK K X Z := fun i hi hx => (k i hi (by omega)).trans (h i hi hx)
theorem KeepK.of_below {K : Nat → Prop} {X Y : World} (h : Below X.heap.size X Y) : KeepK K X Y := fun i _ hx => h.block i hx
theorem TyIn.keepK {K : Nat → Prop} {X W : World} {t : T} {v : Value} (h : TyIn K X t v) (hk : KeepK K X W) : TyIn K W t v := h.keep fun k _ _ h1 h2 => (hk k h1 (Array.getElem?_eq_some_iff.1 h2).1).trans h2
/-- A part of a row. -/
theorem TyIn.part {K : Nat → Prop} {X : World} {t : T} {a : Option Addr} {c : Nat} (h : TyIn K X t (.slice a t.kids.length c)) (i : Nat) (hi : i < t.kids.length) : ∃ g pa ca, a = some ⟨g, 0, none⟩ ∧ t.kids.length ≤ c ∧ ∀ W, KeepK K X W → (g < W.heap.size ∧ W.cell? ⟨g, i * 3, none⟩ = some (.int .i64 t.kids[i].kind) ∧ W.cell? ⟨g, i * 3 + 1, none⟩ = some (.string t.kids[i].name) ∧ W.cell? ⟨g, i * 3 + 2, none⟩ = some (.slice pa t.kids[i].kids.length ca)) ∧ TyIn K W t.kids[i] (.slice pa t.kids[i].kids.length ca) := by
  obtain ⟨v, hv⟩ : ∃ v, v = Value.slice a t.kids.length c := ⟨_, rfl⟩
  rw [← hv] at h
  cases h with
  | leaf _ _ _ h0 => rw [h0] at hi; cases hi
  | row _ g cap cs fz z h0 h1 h2 h3 h4 =>
    cases hv
    obtain ⟨pa, ca, e⟩ := (h4 i hi).shape
    obtain ⟨c1, c2, c3⟩ := h3 i hi
    rw [e] at c3
    refine ⟨g, pa, ca, rfl, h2, fun W hk => ?_⟩
    have hW := (hk g h0 (Array.getElem?_eq_some_iff.1 h1).1).trans h1
    refine ⟨⟨(Array.getElem?_eq_some_iff.1 hW).1, ?_, ?_, ?_⟩, ?_⟩
    · simp only [World.cell?, hW]; simpa using c1
    · simp only [World.cell?, hW]; simpa using c2
    · simp only [World.cell?, hW]; simpa using c3
    · rw [← e]; exact (h4 i hi).keepK hk

theorem partss_take (l : List T) (i : Nat) (h : i < l.length) : partss (l.take (i + 1)) = partss (l.take i) ++ parts l[i] := by
  induction l generalizing i with
  | nil => simp at h
  | cons a l ih =>
    cases i with
    | zero => simp [partss]
    | succ i => simp only [List.take_succ_cons, partss, List.getElem_cons_succ, List.append_assoc]; rw [ih i (by simpa using h)]

theorem partss_split (l : List T) (i : Nat) (h : i < l.length) : partss l = partss (l.take i) ++ parts l[i] ++ partss (l.drop (i + 1)) := by
  induction l generalizing i with
  | nil => simp at h
  | cons a l ih =>
    cases i with
    | zero => simp [partss]
    | succ i =>
      have := ih i (by simpa using h)
      simp only [List.take_succ_cons, partss, List.getElem_cons_succ, List.drop_succ_cons, List.append_assoc] at this ⊢
      rw [this]
/-- All parts were told, or it was stopped. -/
def TellPost (K : Nat → Prop) (J Jx : List Tl → World → Prop) (t : T) (pre : List Tl) (X : World) (e : Ending) (Y : World) : Prop :=
  (e = .returned (.bool true) ∧ (∃ xs : List Tl, xs.map (·.1) = parts t ∧ J (pre ++ xs) Y) ∧ KeepK K X Y ∧ X.heap.size ≤ Y.heap.size) ∨ (e = .returned (.bool false) ∧ ∃ pre', Jx pre' Y)
/-- Told one by one, from any row told so far on. -/
def TellOK (n l : Nat) (whole : List T) (K : Nat → Prop) (J Jx : List Tl → World → Prop) (t : T) : Prop := ∀ (pre : List Tl) (X0 X : World) (a : Option Addr) (c : Nat), J pre X0 → Below X0.heap.size X0 X → TyIn K X t (.slice a t.kids.length c) → (∃ r, pre.map (·.1) ++ parts t ++ r = whole) → tsize t ≤ 1000000000 →
    CallsIn Fence.wide n Try.prog 33 #[tyV t (.slice a t.kids.length c), .func (.yield l) #[] #[]] X (TellPost K J Jx t pre X)

set_option maxRecDepth 100000 in
set_option maxHeartbeats 4000000 in
theorem tell_step (n l : Nat) (whole : List T) (K : Nat → Prop) (J Jx : List Tl → World → Prop)
    (hY : ∀ pre x X0 X, J pre X0 → pre.length < whole.length → Below X0.heap.size X0 X → ExA whole pre x X0 X → YieldAt Fence.wide (n - 1) Try.prog l (encA x) X fun e Y =>
      (e = .returned (.bool true) ∧ J (pre ++ [x]) Y ∧ Kept K X0.heap.size X Y) ∨ (e = .returned (.bool false) ∧ Jx (pre ++ [x]) Y))
    (hn : 1 ≤ n) (t : T) (H : ∀ k ∈ t.kids, TellOK n l whole K J Jx k) : TellOK n l whole K J Jx t := by
  intro pre X0 X a c hJ hX ht hN hs
  obtain ⟨rest, hrest⟩ := hN
  have HRest := Lib.hid hrest
  have hpl : pre.length < whole.length := by rw [← hrest]; simp [parts_eq]
  clear hrest
  have hz := tsize_eq t
  have hlen := len_sizes' t.kids
  have HO := Lib.hid (fun (o : Obj) => own_any (w := X.alloc o) hs (ht.tys.keep (keepT_alloc X o)))
  have HR := Lib.hid ht.part
  have HS := Lib.hid H
  have HX0 := Lib.hid hX
  have HJ := Lib.hid hJ
  have HY := Lib.hid hY
  clear H ht hX hJ hY
  refine callsIn_of_wp Try.func33 rfl trivial ?_ rfl
  simp only [Try.ntmps33, List.size_toArray, List.length_cons, List.length_nil, Nat.reduceAdd, Nat.reduceSub, Array.replicate_succ, Array.replicate_zero, List.push_toArray, List.append_toArray, List.nil_append, List.cons_append]
  simp only [tyV] at HO ⊢
  gi_wp2_with (refine ⟨trivial, ?_⟩; gi_at_call 31; refine (callsIn_wide.2 (HO.out _)).mono ?_)
  rintro e w1 ⟨⟨a1, c1, rfl, g1⟩, g2⟩
  have hb1 : Below X.heap.size X w1 := ((Below.refl _ X).alloc (Nat.le_refl _) _).trans (g2.mono (by simp))
  have hbox : w1.heap[X.heap.size]? = some (.cells #[.int .i64 t.kind, .string t.name, .slice a t.kids.length c] 29 (0, 0)) := (g2.block _ (by simp)).trans (alloc_new X _)
  have hx01 : Below X0.heap.size X0 w1 := HX0.out.trans (hb1.mono HX0.out.size)
  obtain ⟨fn, tmps, assign, body, hy, hR⟩ := HY.out pre (t, a1, c1) X0 w1 HJ.out hpl hx01 ⟨⟨g1.mono (fun k hk => by have := HX0.out.size; simp at hk; omega), hs⟩, partss t.kids ++ rest, by rw [← HRest.out, parts_eq]; simp⟩
  dsimp only [encA] at hy
  have HB1 := Lib.hid hb1
  have HBox := Lib.hid hbox
  have l1 := (Array.getElem?_eq_some_iff.1 hbox).1
  clear g1 g2 hb1 hbox hx01
  gi_wp2
  refine hR.mono ?_
  clear hR hy
  rintro e W3 (⟨rfl, hJ3, hk3⟩ | ⟨rfl, hJx3⟩)
  · have hbox3 := (hk3.block X.heap.size (.inl HX0.out.size) l1).trans HBox.out
    have hkk : KeepK K X W3 := (KeepK.of_below HB1.out).trans (fun k hk hx => hk3.block k (.inr hk) hx) HB1.out.size
    have hsz3 : X.heap.size ≤ W3.heap.size := Nat.le_trans HB1.out.size hk3.size
    obtain ⟨b0, b1, b2⟩ := three_cells hbox3
    have HJ3 := Lib.hid hJ3; have HK3 := Lib.hid hkk
    clear hJ3 hk3 hkk hbox3
    gi_wp2
    gi_loopw [15] (fun vi wr => ∃ i : Nat, i ≤ t.kids.length ∧ vi = .int .i64 i ∧ Hid ((∃ xs : List Tl, xs.map (·.1) = t :: partss (t.kids.take i) ∧ J (pre ++ xs) wr) ∧ KeepK K X wr ∧ X.heap.size ≤ wr.heap.size)) (fun vi _ => t.kids.length - (intOf vi).toNat)
    case atStart => exact ⟨0, Nat.zero_le _, rfl, Lib.hid ⟨⟨[(t, a1, c1)], by simp [partss], HJ3.out⟩, HK3.out, hsz3⟩⟩
    case round =>
      obtain ⟨i, hi, rfl, hF⟩ := hrel
      obtain ⟨⟨xs, hxs, hJ⟩, hK, hsz⟩ := hF.out
      by_cases hlt : i < t.kids.length
      · obtain ⟨g, pa, ca, rfl, hcap, hr⟩ := HR.out i hlt
        obtain ⟨⟨hg, x0, x1, x2⟩, xk⟩ := hr wr hK
        have hsz1 := tsizes_take t.kids i hlt
        have hkk := size_mem' (List.getElem_mem hlt)
        have hpt := partss_take t.kids i hlt
        have HC := Lib.hid (fun o => HS.out t.kids[i] (List.getElem_mem hlt) (pre ++ xs) wr (wr.alloc o) pa ca hJ ((Below.refl _ wr).alloc (Nat.le_refl _) o) (xk.keepK (KeepK.of_below ((Below.refl _ wr).alloc (Nat.le_refl _) o))) ⟨partss (t.kids.drop (i + 1)) ++ rest, by rw [← HRest.out, List.map_append, hxs, parts_eq t, partss_split t.kids i hlt]; simp⟩ (by omega))
        have HK := Lib.hid (fun o => hK.trans (KeepK.of_below (K := K) ((Below.refl _ wr).alloc (Nat.le_refl _) o)) hsz)
        have HXS := Lib.hid hxs; have HPT := Lib.hid hpt
        clear hr hF xk hsz1 hkk HS HR hJ hK hxs hpt HO HY HJ HX0 HB1 HBox HJ3 HK3 b0 b1 b2
        generalize t.kids[i] = u at x0 x1 x2 HC HPT
        simp only [tyV] at HC
        have hlt1 : ((i : Int) < (t.kids.length : Int)) := by omega
        gi_wp2_with (refine ⟨trivial, ?_⟩; gi_at_call 33; refine (callsIn_wide.2 (callsIn_wide.1 (HC.out _))).mono ?_)
        rintro e w2 hp
        rcases hp with ⟨rfl, ⟨ys, hys, hJ2⟩, hk2, hs2⟩ | ⟨rfl, pre', hJx⟩
        · have HJ2 := Lib.hid hJ2
          have HK2 := Lib.hid ((HK.out _).trans hk2 (by simp; omega))
          have hs2' : X.heap.size ≤ w2.heap.size := by simp at hs2; omega
          clear hJ2 hk2 HC
          gi_wp2
          go_roundw
          case rel =>
            refine ⟨i + 1, by omega, by go_num, Lib.hid ⟨⟨xs ++ ys, ?_, by rw [← List.append_assoc]; exact HJ2.out⟩, HK2.out, hs2'⟩⟩
            rw [List.map_append, HXS.out, hys, HPT.out]; simp
          case measure => simp [intOf]; omega
        · have HJX := Lib.hid hJx
          clear hJx HC
          gi_wp2
          go_ret
          exact .inr ⟨rfl, pre', HJX.out⟩
      · obtain rfl : i = t.kids.length := by omega
        rw [List.take_length, ← parts_eq] at hxs
        have HF := Lib.hid (show (∃ xs : List Tl, xs.map (·.1) = parts t ∧ J (pre ++ xs) wr) ∧ KeepK K X wr ∧ X.heap.size ≤ wr.heap.size from ⟨⟨xs, hxs, hJ⟩, hK, hsz⟩)
        clear hF hxs hJ hK hsz HR HS HO HY HJ HX0 HB1 HBox HJ3 HK3 b0 b1 b2
        gi_wp2
        go_ret
        exact .inl ⟨rfl, HF.out⟩
  · have HJX := Lib.hid hJx3
    clear hJx3
    gi_wp2
    go_ret
    exact .inr ⟨rfl, _, HJX.out⟩
theorem tell_ok (n l : Nat) (whole : List T) (K : Nat → Prop) (J Jx : List Tl → World → Prop)
    (hY : ∀ pre x X0 X, J pre X0 → pre.length < whole.length → Below X0.heap.size X0 X → ExA whole pre x X0 X → YieldAt Fence.wide (n - 1) Try.prog l (encA x) X fun e Y =>
      (e = .returned (.bool true) ∧ J (pre ++ [x]) Y ∧ Kept K X0.heap.size X Y) ∨ (e = .returned (.bool false) ∧ Jx (pre ++ [x]) Y))
    (hn : 1 ≤ n) (t : T) : TellOK n l whole K J Jx t := T.by_kids (P := TellOK n l whole K J Jx) (tell_step n l whole K J Jx hY hn) t

set_option maxRecDepth 100000 in
set_option maxHeartbeats 2000000 in
theorem all_told (n : Nat) (hn : 1 ≤ n) (t : T) (hs : tsize t ≤ 1000000000) (b0 : Nat) (a : Option Addr) (c : Nat) (K : Nat → Prop) (w : World) (hb : w.heap[b0]? = some (.cells #[.int .i64 t.kind, .string t.name, .slice a t.kids.length c] 29 (0, 0))) (ht : TyIn K w t (.slice a t.kids.length c)) :
    SeqGen n Try.prog 32 #[.pointer (some ⟨b0, 0, none⟩)] encA (ExA (parts t)) K (fun xs => xs.map (·.1) = parts t) (fun _ => True) (parts t).length w := by
  intro l J Jx W hW hY h0
  have hbW : W.heap[b0]? = _ := (hW.block b0 (Array.getElem?_eq_some_iff.1 hb).1).trans hb
  have htW : TyIn K W t (.slice a t.kids.length c) := ht.keepK (KeepK.of_below hW)
  obtain ⟨x0, x1, x2⟩ := three_cells hbW
  have HC := Lib.hid (tell_ok n l (parts t) K J Jx hY hn t [] W W a c h0 (Below.refl _ _) htW ⟨[], by simp⟩ hs)
  clear hb ht hW hY h0 hbW htW hs
  simp only [tyV] at HC
  refine callsIn_of_wp Try.func32 rfl trivial ?_ rfl
  simp only [Try.ntmps32, List.size_toArray, List.length_cons, List.length_nil, Nat.reduceAdd, Nat.reduceSub, Array.replicate_succ, Array.replicate_zero, List.push_toArray, List.append_toArray, List.nil_append, List.cons_append]
  gi_wp2_with (refine ⟨trivial, ?_⟩; gi_at_call 33; refine (callsIn_wide.2 (callsIn_wide.1 HC.out)).mono ?_)
  rintro e w2 hp
  rcases hp with ⟨rfl, ⟨ys, hys, hJ2⟩, hk2, hs2⟩ | ⟨rfl, pre', hJx⟩
  · have HJ := Lib.hid hJ2; have HY := Lib.hid hys
    clear hJ2 hk2 hs2 hys
    gi_wp2
    go_end0
    exact ⟨⟨_, rfl⟩, .inl ⟨ys, HY.out, by have := HJ.out; simpa using this⟩⟩
  · have HJ := Lib.hid hJx
    clear hJx
    gi_wp2
    go_end0
    exact ⟨⟨_, rfl⟩, .inr ⟨_, trivial, HJ.out⟩⟩

set_option maxHeartbeats 1000000 in
theorem all_any {t : T} {v : Value} {w : World} (hs : tsize t ≤ 1000000000) (h : TysAt w v t.kids) :
    Calls Try.prog 9 #[tyV t v] w fun e w' => e = .returned (.func (.func 32) #[] #[.pointer (some ⟨w.heap.size, 0, none⟩)]) ∧
      (∃ a c, w'.heap[w.heap.size]? = some (.cells #[.int .i64 t.kind, .string t.name, .slice a t.kids.length c] 29 (0, 0)) ∧ TyIn (fun k => w.heap.size < k ∧ k < w'.heap.size) w' t (.slice a t.kids.length c)) ∧ Below w.heap.size w w' := by
  obtain ⟨a, c, rfl⟩ := h.shape
  have HO := Lib.hid (fun (o : Obj) => own_any (w := w.alloc o) hs (h.keep (keepT_alloc w o)))
  have HB := Lib.hid (fun o => (Below.refl _ w).alloc (Nat.le_refl _) o)
  clear h
  simp only [tyV] at HO ⊢
  go_enter Try.func9, Try.ntmps9
  go_wp2_with (go_at_call 31; refine (HO.out _).mono ?_)
  rintro e w1 ⟨⟨a1, c1, rfl, g1⟩, g2⟩
  have hbox : w1.heap[w.heap.size]? = some (.cells #[.int .i64 t.kind, .string t.name, .slice a t.kids.length c] 29 (0, 0)) := (g2.block _ (by simp)).trans (alloc_new w _)
  obtain ⟨x0, x1, x2⟩ := three_cells hbox
  have f0 := Lib.frozen_of_heap hbox 0
  have f1 := Lib.frozen_of_heap hbox 1
  have f2 := Lib.frozen_of_heap hbox 2
  have HX := Lib.hid hbox; have H1 := Lib.hid g1; have H2 := Lib.hid g2
  clear hbox g1 g2 HO
  go_wp2
  go_ret
  refine ⟨rfl, ⟨a1, c1, set3_block HX.out _ _ _, ?_⟩, below_set3 ((HB.out _).trans (H2.out.mono (by simp))) (Nat.le_refl _) _ _ _⟩
  refine (H1.out.lt.keep fun k cs fz hk hh => ?_).mono fun k hk => ⟨by have := hk.1; simp at this; omega, by rw [size_set3]; exact hk.2⟩
  exact (heap_set3 _ _ _ (by have := hk.1; simp at this; omega)).trans hh
end Go.Proofs.Yteoelcefjjmjiaa
