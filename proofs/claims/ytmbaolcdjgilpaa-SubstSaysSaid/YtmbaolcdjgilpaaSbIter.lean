/- (Subst).Pairs: the pairs, told one by one. -/
import Derived.Test.YtmbaolcdjgilpaaSbOthersA
import Derived.Test.YtmbaolcdjgilpaaRange
import Derived.Test.YtmbaolcdjgilpaaSbOthersR
import Derived.Stop.RegionWithIn
import Derived.OwnWalkIn
import Derived.TacticsInMore
import Derived.LoopNIn
import Derived.LoopIn
namespace Go.Proofs.Ytmbaolcdjgilpaa
open Go.RowKit Go.Sort Go.Lib
attribute [local go_sem] Oper.semAt_some

def encQ (x : PR) : Array Value := #[.string x.n, .agg #[.int .i64 x.t.kind, .string x.t.name, .slice x.a x.t.kids.length x.c]]
/-- What is told is the next one of the row; its rows are new since the last round. -/
def ExQ (d : List PR) (pre : List PR) (x : PR) (X0 X : World) : Prop := TyIn (fun k => X0.heap.size ≤ k) X x.t (.slice x.a x.t.kids.length x.c) ∧ (pre.length < d.length ∧ x.n = (d.getD pre.length noP).n ∧ x.t = (d.getD pre.length noP).t)
/-- Rows of types, all of them in blocks that are ok. -/
theorem TyAt.inside {ok : Nat → Prop} {w : World} (hk : ∀ (k : Nat) (cs : Array Value) (fz : Nat × Nat), w.heap[k]? = some (.cells cs 34 fz) → ok k) {t : T} {k n v : Value} (h : TyAt w t k n v) : TyIn ok w t v := by
  induction h with
  | leaf t a c h => exact .leaf t a c h
  | row t g cap cs fz x y z h1 h2 h3 h4 ih =>
    refine .row t g cap cs fz z (hk _ _ _ h1) h1 h2 (fun i hi => ?_) ih
    obtain ⟨e1, e2, _⟩ := (h4 i hi).shape
    obtain ⟨c1, c2, c3⟩ := h3 i hi
    exact ⟨by rw [c1, e1], by rw [c2, e2], c3⟩
theorem TysAt.inside {ok : Nat → Prop} {w : World} (hk : ∀ (k : Nat) (cs : Array Value) (fz : Nat × Nat), w.heap[k]? = some (.cells cs 34 fz) → ok k) {t : T} {v : Value} (h : TysAt w v t.kids) : TyIn ok w t v := (TyAt.mk t h).inside hk
def KeepK (K : Nat → Prop) (X W : World) : Prop := ∀ k, K k → k < X.heap.size → W.heap[k]? = X.heap[k]?
theorem KeepK.trans {K : Nat → Prop} {X Y Z : World} (h : KeepK K X Y) (k : KeepK K Y Z) (hs : X.heap.size ≤ Y.heap.size) : KeepK K X Z := fun i hi hx => (k i hi (by omega)).trans (h i hi hx)
theorem KeepK.of_below {K : Nat → Prop} {X Y : World} (h : Below X.heap.size X Y) : KeepK K X Y := fun i _ hx => h.block i hx
theorem TyIn.keepK {K : Nat → Prop} {X W : World} {t : T} {v : Value} (h : TyIn K X t v) (hk : KeepK K X W) : TyIn K W t v := h.keep fun k _ _ h1 h2 => (hk k h1 (Array.getElem?_eq_some_iff.1 h2).1).trans h2
/-- The row of pairs that the iterator goes through: in blocks of K. -/
def Src (K : Nat → Prop) (a : Option Addr) (d : List PR) (w : World) : Prop := (∀ i, i < d.length → ∃ g, a = some ⟨g, 0, none⟩ ∧ K g ∧ RowP g d w) ∧ ∀ x ∈ d, TyIn K w x.t (.slice x.a x.t.kids.length x.c)
theorem Src.keepK {K : Nat → Prop} {a : Option Addr} {d : List PR} {X W : World} (h : Src K a d X) (hk : KeepK K X W) : Src K a d W :=
  ⟨fun i hi => by obtain ⟨g, e, h1, h2⟩ := h.1 i hi; exact ⟨g, e, h1, h2.same (hk g h1 h2.lt)⟩, fun x hx => (h.2 x hx).keepK hk⟩
theorem Src.of {K : Nat → Prop} {a : Option Addr} {n c : Nat} {d : List PR} {w : World} (h : SubAt (.slice a n c) d w) (h1 : ∀ (k : Nat) (cs : Array Value) (fz : Nat × Nat), w.heap[k]? = some (.cells cs 34 fz) → K k)
    (h2 : ∀ (k : Nat) (cs : Array Value) (fz : Nat × Nat), w.heap[k]? = some (.cells cs 58 fz) → K k) : Src K a d w := by
  obtain ⟨⟨hs, _⟩, ht⟩ := h
  refine ⟨fun i hi => ?_, fun x hx => (ht x hx).inside h1⟩
  rcases hs with ⟨rfl, _⟩ | ⟨g, cap, e, _, hr⟩
  · cases hi
  · simp only [Value.slice.injEq] at e
    have hr0 := hr
    obtain ⟨cs, hg, _⟩ := hr
    exact ⟨g, e.1, h2 g _ _ hg, hr0⟩
set_option maxRecDepth 100000 in
set_option maxHeartbeats 4000000 in
theorem pairs_told (n : Nat) (hn : 1 ≤ n) (d : List PR) (hd : SizedAll d) (hlen : d.length < 1000000) (b0 : Nat) (a : Option Addr) (c : Nat) (K' : Nat → Prop) (w : World) (hb : w.heap[b0]? = some (.cells #[.slice a d.length c] 39 (0, 0))) (hs : Src K' a d w) :
    SeqGen n Try.prog 37 #[.pointer (some ⟨b0, 0, none⟩)] encQ (ExQ d) K' (fun xs => xs.length = d.length) (fun _ => True) d.length w := by
  intro l J Jx W hW hY h0
  have hbW : W.heap[b0]? = _ := (hW.block b0 (Array.getElem?_eq_some_iff.1 hb).1).trans hb
  have x0 : W.cell? ⟨b0, 0, none⟩ = some (.slice a d.length c) := by rw [Lib.cell_of_heap hbW]; rfl
  have HS := Lib.hid (hs.keepK (KeepK.of_below hW))
  have HJ := Lib.hid h0; have HY := Lib.hid hY
  clear hb hs hW hY h0 hbW
  refine callsIn_of_wp Try.func37 rfl trivial ?_ rfl
  simp only [Try.ntmps37, List.size_toArray, List.length_cons, List.length_nil, Nat.reduceAdd, Nat.reduceSub, Array.replicate_succ, Array.replicate_zero, List.push_toArray, List.append_toArray, List.nil_append, List.cons_append]
  gi_wp2
  gi_loopw [8] (fun vi wr => ∃ (i : Nat) (pre : List PR), i ≤ d.length ∧ vi = .int .i64 i ∧ Hid (pre.length = i ∧ J pre wr ∧ KeepK K' W wr ∧ W.heap.size ≤ wr.heap.size)) (fun vi _ => d.length - (intOf vi).toNat)
  case atStart => exact ⟨0, [], Nat.zero_le _, rfl, Lib.hid ⟨rfl, HJ.out, fun _ _ _ => rfl, Nat.le_refl _⟩⟩
  case round =>
    obtain ⟨i, pre, hi, rfl, hF⟩ := hrel
    by_cases hlt : i < d.length
    · obtain ⟨hpl, hJ, hK, hsz⟩ := hF.out
      obtain ⟨hs1, hs2⟩ := HS.out.keepK hK
      obtain ⟨g, rfl, hgK, hr⟩ := hs1 i hlt
      obtain ⟨y0, y1, y2, y3⟩ := hr.cells hlt
      have lg := hr.lt
      have hm := getD_mem hlt
      have hz : ((i : Int) < (d.length : Int)) := by omega
      have hxt : Hid (pre.length < d.length ∧ (d.getD i noP).n = (d.getD pre.length noP).n ∧ (d.getD i noP).t = (d.getD pre.length noP).t) := Lib.hid ⟨by omega, by rw [hpl], by rw [hpl]⟩
      have hin := hs2 _ hm
      have hsz1 := hd _ hm
      generalize d.getD i noP = x at y0 y1 y2 y3 hxt hin hsz1
      have HO := Lib.hid (fun (V : World) (h : Below wr.heap.size wr V) => own_any (w := V) hsz1 ((hin.keepK (KeepK.of_below h)).tys))
      have HJ1 := Lib.hid hJ; have HK1 := Lib.hid hK
      clear hJ hK hs1 hs2 hr hgK hm hin hF HJ
      simp only [ResT, tyV] at HO
      gi_wp2
      have hbx : (wr.alloc (.cells #[.string x.n, .int .i64 x.t.kind, .string x.t.name, .slice x.a x.t.kids.length x.c] 58)).heap[wr.heap.size]? = some (.cells #[.string x.n, .int .i64 x.t.kind, .string x.t.name, .slice x.a x.t.kids.length x.c] 58 (0, 0)) := alloc_new wr _
      have hbb := below_a wr (.cells #[.string x.n, .int .i64 x.t.kind, .string x.t.name, .slice x.a x.t.kids.length x.c] 58)
      obtain ⟨V, hV⟩ : ∃ V, wr.alloc (.cells #[.string x.n, .int .i64 x.t.kind, .string x.t.name, .slice x.a x.t.kids.length x.c] 58) = V := ⟨_, rfl⟩
      rw [hV] at hbx hbb ⊢
      obtain ⟨v0, v1, v2, v3⟩ := four_cells hbx
      have HBX := Lib.hid hbx; have HBB := Lib.hid hbb
      have hyy := fun (X : World) (hB : Below wr.heap.size wr X) (a2 : Option Addr) (c2 : Nat) (h2 : TyIn (fun k => wr.heap.size ≤ k) X x.t (.slice a2 x.t.kids.length c2)) => HY.out pre ⟨x.n, x.t, a2, c2⟩ wr X HJ1.out hxt.out.1 hB ⟨h2, hxt.out⟩
      have HYY := Lib.hid hyy
      clear hV hbx hbb hyy HY y0 y1 y2 y3
      refine wpIn_region_any (by kernel_rfl) ?_
      try (change wpAnyIn _ _ _ _ _ _ _ _ _ (World.drew _))
      refine wpAnyIn_take (i := 0) (v := ?_) rfl rfl (by kernel_rfl) (by kernel_rfl) (by kernel_rfl) (fun _ _ _ h => h) ⟨Or.inl ⟨by rfl, ?_⟩, fun _ => rfl⟩ ?_
      rotate_left
      · intro w; go_simp; with_reducible rfl
      refine wpAnyIn_take (i := 1) (v := ?_) rfl rfl (by kernel_rfl) (by kernel_rfl) (by kernel_rfl) (fun _ _ _ h => h) ⟨Or.inl ⟨by rfl, ?_⟩, fun _ => rfl⟩ ?_
      rotate_left
      · intro w; go_simp; with_reducible rfl
      refine wpAnyIn_take (i := 3) (v := ?_) rfl rfl (by kernel_rfl) (by kernel_rfl) (by kernel_rfl) (fun _ _ _ h => h) ⟨Or.inl ⟨by rfl, ?_⟩, fun _ => rfl⟩ ?_
      rotate_left
      · intro w; go_simp; with_reducible rfl
      repeat' (first
        | exact AllReadyIn.nil
        | (refine wpAnyIn_ready (rs := [2, 4]) (by decide +kernel) (by simp) ?_) | (refine wpAnyIn_ready (rs := [2, 5]) (by decide +kernel) (by simp) ?_) | (refine wpAnyIn_ready (rs := [2]) (by decide +kernel) (by simp) ?_) | (refine wpAnyIn_ready (rs := [4]) (by decide +kernel) (by simp) ?_) | (refine wpAnyIn_ready (rs := [5]) (by decide +kernel) (by simp) ?_) | (refine wpAnyIn_ready (rs := [6]) (by decide +kernel) (by simp) ?_)
        | (refine AllReadyIn.cons rfl (fun K hK => ?_) ?_)
        | (go_simp; refine hK _ _ ?_; clear hK K)
        | (go_simp; refine ⟨trivial, ?_⟩; gi_at_call 31; refine (callsIn_wide.2 (HO.out _ HBB.out.drew)).mono ?_; rintro e w2 ⟨⟨a2, c2, rfl, g1⟩, g2⟩; have hB2 := HBB.out.drew.trans (g2.mono HBB.out.drew.size); obtain ⟨fn, tmps, assign, body, hy, hR⟩ := HYY.out w2 hB2 a2 c2 (g1.mono fun k hk => Nat.le_trans HBB.out.drew.size hk); dsimp only [encQ] at hy; have HB2 := Lib.hid hB2; have hx2 := (g2.block wr.heap.size (Array.getElem?_eq_some_iff.1 HBX.out).1).trans HBX.out; obtain ⟨n0, n1, n2, n3⟩ := four_cells hx2; refine hK _ _ ?_; clear g1 g2 hB2 hx2 v0 v1 v2 v3 hK K))
      all_goals
        go_simp
        refine hR.mono ?_
        clear hR hy
        rintro e W3 (⟨rfl, hJ3, hk3⟩ | ⟨rfl, hJx3⟩)
        · have hkk : KeepK K' W W3 := (HK1.out.trans (KeepK.of_below HB2.out) hsz).trans (fun k hk hx => hk3.block k (.inr hk) hx) (Nat.le_trans hsz HB2.out.size)
          have hsz3 : W.heap.size ≤ W3.heap.size := Nat.le_trans hsz (Nat.le_trans HB2.out.size hk3.size)
          have HJ3 := Lib.hid hJ3; have HK3 := Lib.hid hkk
          clear hJ3 hk3 hkk
          refine hK _ _ ?_
          clear hK K
          refine wpAnyIn_ready (rs := [7]) (by decide +kernel) (by simp) ?_
          refine AllReadyIn.cons rfl (fun K hK => ?_) AllReadyIn.nil
          go_simp
          refine hK _ _ ?_
          clear hK K
          refine wpAnyIn_done (by kernel_rfl) ?_ _
          gi_wp2
          go_roundw
          case rel => exact ⟨i + 1, pre ++ [⟨x.n, x.t, a2, c2⟩], by omega, by go_num, Lib.hid ⟨by simp [hpl], HJ3.out, HK3.out, hsz3⟩⟩
          case measure => simp [intOf]; omega
        · have HJX := Lib.hid hJx3
          clear hJx3
          refine hK _ _ ?_
          clear hK K
          refine wpAnyIn_ready (rs := [7]) (by decide +kernel) (by simp) ?_
          refine AllReadyIn.cons rfl (fun K hK => ?_) AllReadyIn.nil
          go_simp
          refine hK _ _ ?_
          clear hK K
          refine wpAnyIn_done (by kernel_rfl) ?_ _
          gi_wp2
          exact bodyPost_ret (results_none rfl _ _ _) rfl ⟨⟨_, rfl⟩, .inr ⟨_, trivial, HJX.out⟩⟩
    · obtain rfl : i = d.length := by omega
      gi_wp2
      go_end0
      exact ⟨⟨_, rfl⟩, .inl ⟨pre, hF.out.1, hF.out.2.1⟩⟩
end Go.Proofs.Ytmbaolcdjgilpaa
