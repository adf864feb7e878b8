/- TypesSay, walked. -/
import Derived.Test.YteoelcefjjmjiaaTyRef
import Derived.Test.YteoelcefjjmjiaaTyRAll
import Derived.Test.YteoelcefjjmjiaaTyRVars2
import Derived.Test.YteoelcefjjmjiaaTySeen
import Derived.Test.YteoelcefjjmjiaaTySayK
import Derived.Test.YteoelcefjjmjiaaTySayR
import Derived.Deep.RegionHeld3
import Derived.Deep.DrawnRows
import Derived.BigRegion
namespace Go.Proofs.Yteoelcefjjmjiaa
open Go.RowKit
attribute [local go_sem] Oper.semAt_some

set_option maxRecDepth 100000 in
set_option maxHeartbeats 8000000 in
theorem say_any (a1 a2 : Option Addr) (n1 n2 c1 c2 : Nat) (nm : ByteArray) (w : World) (hl1 : IntsAt w.heap.size a1 n1 w) (hl2 : IntsAt w.heap.size a2 n2 w) :
    Calls Try.prog 3 #[.slice a1 n1 c1, .slice a2 n2 c2, .string nm] w fun e w' => e = .returned (.bool true) ∧ Below w.heap.size w w' := by
  have HL1 := Lib.hid hl1; have HL2 := Lib.hid hl2
  clear hl1 hl2
  by_cases hb1 : n1 ≤ 100
  · by_cases hb2 : n2 ≤ 100
    · by_cases hb3 : nm.size ≤ 40
      · have hn1 : n1 < 1152921504606846976 := by omega
        have hn2 : n2 < 1152921504606846976 := by omega
        have hb1I : ¬ ((100 : Int) < (n1 : Int)) := by omega
        have hb2I : ¬ ((100 : Int) < (n2 : Int)) := by omega
        have hb3I : ¬ ((40 : Int) < (nm.size : Int)) := by omega
        have hb1D : decide ((100 : Int) < (n1 : Int)) = false := by simpa using hb1I
        have hb2D : decide ((100 : Int) < (n2 : Int)) = false := by simpa using hb2I
        have hb3D : decide ((40 : Int) < (nm.size : Int)) = false := by simpa using hb3I
        refine (callsIn_wide (n := 3)).1 ?_
        refine callsIn_of_wp_marks Try.func3 rfl trivial ?_ rfl
        simp only [Try.ntmps3, List.size_toArray, List.length_cons, List.length_nil, Nat.reduceAdd, Nat.reduceSub, Array.replicate_succ, Array.replicate_zero, List.push_toArray, List.append_toArray, List.nil_append, List.cons_append]
        gi_wp2_with (refine ⟨trivial, ?_⟩; gi_at_call 7; refine (callsIn_wide.2 (first_any _)).mono ?_; rintro e w1 ⟨rfl, h1⟩; have HB1 := Lib.hid h1; clear h1)
        refine (callsIn_wide (n := 2)).2 ?_ |> fun h => ⟨trivial, h⟩
        refine (make_type4 _ _ _ _ _ _ _ (seq_new HB1.out HL1.out) (by decide) hn1).mono ?_
        rintro e W1 ⟨⟨t, u, rfl, hg, hu⟩, ⟨k1, hk1, hs⟩, hf⟩
        obtain ⟨pa, ca, rfl⟩ := hu.shape
        have HB2 := Lib.hid ((HB1.out.alloc HB1.out.size _).trans hf.1)
        have HT := Lib.hid hu; have HG := Lib.hid hg
        clear hu hs hf hg hk1
        simp only [tyV]
        gi_wp2_with (refine ⟨trivial, ?_⟩; gi_at_call 8; refine (callsIn_wide (n := 2)).2 ?_; refine with_calls (fun V => (BoxT W1.heap.size t pa ca V ∧ SeqAt w.heap.size (W1.heap.size + 1) a2 n2 c2 0 V) ∧ Below w.heap.size w V) ⟨⟨(BoxT.new HT.out).alloc _, by have := seq_new (c := c2) (HB2.out.alloc HB2.out.size (.cells #[.int .i64 t.kind, .string t.name, .slice pa t.kids.length ca] 29)) HL2.out; simpa using this⟩, (HB2.out.alloc HB2.out.size _).alloc (by simp; have := HB2.out.size; omega) _⟩ ?_)
        rintro V2 ⟨⟨h1, h2⟩, h3⟩
        refine (make_type4 _ _ _ _ _ _ _ h2 (by decide) hn2).mono ?_
        rintro e W3 ⟨⟨u, uv, rfl, hgy, hu⟩, ⟨k2, hk2, hs⟩, hf⟩
        obtain ⟨pb, cb, rfl⟩ := hu.shape
        have HB3 := Lib.hid (h3.trans hf.1)
        have HX3 := Lib.hid (h1.made hf h2 (by omega))
        have HU := Lib.hid hu; have HGU := Lib.hid hgy
        have hbt : W1.heap.size < W3.heap.size := HX3.out.lt
        clear hu hs hf hgy h1 h2 h3 HB2 HT hk2
        obtain ⟨x0, x1, x2⟩ := HX3.out.cells
        simp only [tyV]
        generalize W1.heap.size = bt at *
        generalize w1.heap.size = b1 at *
        have hbt1 : bt < W3.heap.size + 1 := by omega
        have hbt2 : bt < W3.heap.size + 1 + 1 := by omega
        have hbt3 : bt < W3.heap.size + 1 + 1 + 1 := by omega
        have hts : tsize t ≤ 1000 := by have := size_text t HG.out.1; have := HG.out.2.2; omega
        have hus : tsize u ≤ 1000 := by have := size_text u HGU.out.1; have := HGU.out.2.2; omega
        gi_wp2_with (refine ⟨trivial, ?_⟩; gi_at_call 9)
        have hv1 : BoxT (W3.heap.size + 1 + 1) (.all ⟨#[97]⟩ t) (some ⟨W3.heap.size + 1, 0, none⟩) 1 (((W3.alloc (.cells #[.int .i64 u.kind, .string u.name, .slice pb u.kids.length cb] 29)).alloc (.cells #[.int .i64 t.kind, .string t.name, .slice pa t.kids.length ca] 29)).alloc (.cells #[.int .i64 4, .string ⟨#[97]⟩, .slice (some ⟨W3.heap.size + 1, 0, none⟩) 1 1] 29)) := by
          have hrow : TysAt ((W3.alloc (.cells #[.int .i64 u.kind, .string u.name, .slice pb u.kids.length cb] 29)).alloc (.cells #[.int .i64 t.kind, .string t.name, .slice pa t.kids.length ca] 29)) (.slice (some ⟨W3.heap.size + 1, 0, none⟩) 1 1) [t] := TysAt.one (by simp) (TyAt.mk t (HX3.out.2.keep (keepT_alloc W3 _)))
          have := BoxT.new (t := .all ⟨#[97]⟩ t) (a := some ⟨W3.heap.size + 1, 0, none⟩) (c := 1) hrow
          simpa [T.kind, T.name, T.kids] using this
        have hu1 : BoxT W3.heap.size u pb cb (((W3.alloc (.cells #[.int .i64 u.kind, .string u.name, .slice pb u.kids.length cb] 29)).alloc (.cells #[.int .i64 t.kind, .string t.name, .slice pa t.kids.length ca] 29)).alloc (.cells #[.int .i64 4, .string ⟨#[97]⟩, .slice (some ⟨W3.heap.size + 1, 0, none⟩) 1 1] 29)) := ((BoxT.new HU.out).alloc _).alloc _
        have ht1 : BoxT bt t pa ca (((W3.alloc (.cells #[.int .i64 u.kind, .string u.name, .slice pb u.kids.length cb] 29)).alloc (.cells #[.int .i64 t.kind, .string t.name, .slice pa t.kids.length ca] 29)).alloc (.cells #[.int .i64 4, .string ⟨#[97]⟩, .slice (some ⟨W3.heap.size + 1, 0, none⟩) 1 1] 29)) := ((HX3.out.alloc _).alloc _).alloc _
        have hbw1 : Below w.heap.size w (((W3.alloc (.cells #[.int .i64 u.kind, .string u.name, .slice pb u.kids.length cb] 29)).alloc (.cells #[.int .i64 t.kind, .string t.name, .slice pa t.kids.length ca] 29)).alloc (.cells #[.int .i64 4, .string ⟨#[97]⟩, .slice (some ⟨W3.heap.size + 1, 0, none⟩) 1 1] 29)) := ((HB3.out.alloc HB3.out.size _).alloc (by simp; have := HB3.out.size; omega) _).alloc (by simp; have := HB3.out.size; omega) _
        have hP : (((W3.alloc (.cells #[.int .i64 u.kind, .string u.name, .slice pb u.kids.length cb] 29)).alloc (.cells #[.int .i64 t.kind, .string t.name, .slice pa t.kids.length ca] 29)).alloc (.cells #[.int .i64 4, .string ⟨#[97]⟩, .slice (some ⟨W3.heap.size + 1, 0, none⟩) 1 1] 29)).heap.size = W3.heap.size + 1 + 1 + 1 := by simp
        obtain ⟨V0, hV0⟩ : ∃ V0, ((W3.alloc (.cells #[.int .i64 u.kind, .string u.name, .slice pb u.kids.length cb] 29)).alloc (.cells #[.int .i64 t.kind, .string t.name, .slice pa t.kids.length ca] 29)).alloc (.cells #[.int .i64 4, .string ⟨#[97]⟩, .slice (some ⟨W3.heap.size + 1, 0, none⟩) 1 1] 29) = V0 := ⟨_, rfl⟩
        rw [hV0] at hv1 hu1 ht1 hbw1 hP ⊢
        have HBw := Lib.hid hbw1
        have hA := all_any (t := t) (w := V0.alloc (.cells #[.slice none 0 0] 27)) (by omega) (ht1.alloc _).2
        simp only [tyV, World.size_alloc, hP] at hA
        have HT := Lib.hid ht1; have HUx := Lib.hid hu1; have HVx := Lib.hid hv1
        clear HX3 HB3 HU x0 x1 x2 hbw1 hV0 hbt1 hbt2 hbt3
        generalize W3.heap.size = bu at *
        have HPs := Lib.hid hP
        have HA := Lib.hid hA
        clear hP hA ht1 hu1 hv1
        refine (callsIn_wide.2 HA.out).mono ?_
        rintro e W4 ⟨rfl, ⟨pd, cd, u0, u1⟩, u2⟩
        have zp : W4.heap[bu + 1 + 1 + 1]? = some (.cells #[.slice none 0 0] 27 (0, 0)) := (u2.block _ (by omega)).trans (by rw [← HPs.out]; exact alloc_new V0 _)
        have zB : Below (bu + 1 + 1 + 1) V0 W4 := ((Below.refl _ V0).alloc (Nat.le_of_eq HPs.out.symm) _).trans (u2.mono (by omega))
        have l4 : bu + 1 + 1 + 1 + 1 < W4.heap.size := (Array.getElem?_eq_some_iff.1 u0).1
        clear u2 HA
        gi_wp2
        have hPl : LI (bu + 1 + 1 + 1) W4.heap.size V0 (.slice none 0 0) [] W4 := ⟨⟨zp, by simp [cellsOf], .inl ⟨rfl, rfl⟩⟩, fun x hx => (by cases hx), Nat.le_refl _, zB⟩
        have hlen : (parts t).length ≤ 1000 := by rw [parts_len]; exact hts
        have hbuP : bu < bu + 1 + 1 + 1 := by omega
        obtain ⟨P, hPP⟩ : ∃ P, bu + 1 + 1 + 1 = P := ⟨_, rfl⟩
        rw [hPP] at HPs hPl l4 u0 u1 hbuP ⊢
        obtain ⟨i0, hi, hz0, hz1, hz2⟩ := info_parts Try.infoTy
        clear zp zB hPP
        refine range_gen (n := 3) (σ := Value) (by omega) (gf := 32) (lb := #[.pointer (some ⟨P + 1, 0, none⟩)]) rfl (enters_of Try.func32 (by kernel_rfl) rfl)
          (all_told 2 (by omega) t (by omega) (P + 1) pd cd (fun k => P + 1 < k ∧ k < W4.heap.size) W4 u0 u1)
          (fun k hk => hk.2) (Below.refl _ _) (fun x => rfl)
          (fun s pre X => LI P W4.heap.size V0 s pre X)
          (fun _ _ => False)
          (fun s k => k = P ∨ s.ownBlock = some k)
          ?hI ?hIx ?hT ⟨.slice none 0 0, hPl⟩
          (fun s pre x a' W => ∃ bx, ((W4.heap.size ≤ bx ∧ some bx ≠ s.ownBlock) ∧ W.heap[bx]? = some (.cells #[.int .i64 x.1.kind, .string x.1.name, .slice x.2.1 x.1.kids.length x.2.2] 29 (0, 0))) ∧ TyIn (fun k => some k ≠ s.ownBlock) W x.1 (.slice x.2.1 x.1.kids.length x.2.2) ∧ a' = { tmps := #[.slice a1 n1 c1, .slice a2 n2 c2, .string nm, undef, undef, undef, .bool false, .bool true, .pointer (some ⟨b1, 0, none⟩), .pointer (some ⟨bt, 0, none⟩), .pointer (some ⟨bu, 0, none⟩), .pointer (some ⟨bu + 1 + 1, 0, none⟩), .pointer (some ⟨P, 0, none⟩), .pointer (some ⟨bx, 0, none⟩), .bool true, .bool true, .bool false, .slice a1 n1 c1, .int .i64 (n1 : Int), .bool false, .bool false, .slice a2 n2 c2, .int .i64 (n2 : Int), .bool false, .bool false, .bool false, .string nm, .int .i64 (nm.size : Int), .bool false, .bool false, undef, .slice a1 n1 c1, .agg #[.slice a1 n1 c1, .int .i64 0], .pointer (some ⟨b1, 0, none⟩), .pointer (some ⟨b1, 0, none⟩), .agg #[.int .i64 t.kind, .string t.name, .slice pa t.kids.length ca], .slice a2 n2 c2, .agg #[.slice a2 n2 c2, .int .i64 0], .pointer (some ⟨bt + 1, 0, none⟩), .agg #[.int .i64 u.kind, .string u.name, .slice pb u.kids.length cb], .agg #[.int .i64 t.kind, .string t.name, .slice pa t.kids.length ca], .slice (some ⟨bu + 1, 0, none⟩) 1 1, .agg #[.int .i64 4, .string ⟨#[97]⟩, .slice (some ⟨bu + 1, 0, none⟩) 1 1], .agg #[.int .i64 t.kind, .string t.name, .slice pa t.kids.length ca], .func (.func 32) #[] #[.pointer (some ⟨P + 1, 0, none⟩)], .agg #[.int .i64 x.1.kind, .string x.1.name, .slice x.2.1 x.1.kids.length x.2.2], undef, undef, undef, undef, undef, undef, undef, undef, undef, undef, undef, undef, undef, undef, undef, undef, undef, undef, undef, undef, undef, undef, undef, undef, undef, undef, undef, undef, undef, undef, undef, undef, undef, undef, undef, undef, undef, undef, undef, undef, undef, undef, undef, undef, undef, undef, undef, undef, undef, undef, undef, undef, undef, undef, undef, undef, undef, undef, undef, undef, undef, undef, undef, undef, undef, undef, undef, undef, undef, undef, undef, undef, undef, undef], defers := [] })
          ?hAx .ret ?assign ?body ?done ?stop
        case hI => exact fun s pre X Y row h hgr hrr => h.kept hgr (fun r e => (hrr r e).2) (ownFrom_below (β := Unit) (by rw [HPs.out]; exact Nat.le_refl _) (by omega) () X Y row h.2.2.2 hgr hrr)
        case hIx => exact fun _ _ _ _ h => h.elim
        case hT =>
          rintro s pre X k h (rfl | hk)
          · exact ⟨(Array.getElem?_eq_some_iff.1 h.1.1).1, fun hk => by omega⟩
          · have := h.1.2.lt k hk; exact ⟨this.2, fun hk => by omega⟩
        case hAx => exact fun s pre x a' _ X Y row ⟨bx, ⟨h1, h2⟩, h3, h4⟩ hgr hrr => ⟨bx, ⟨h1, block_kept h2 hgr (fun r e => (hrr r e).2)⟩, tyIn_kept h3 hgr (fun r e => (hrr r e).2), h4⟩
        case assign =>
          rintro l s pre x X0 X C hi0 hX hi ⟨⟨hx1, hx2⟩, hx3⟩ hC
          have hxo : TyIn (fun k => some k ≠ s.ownBlock) X x.1 (.slice x.2.1 x.1.kids.length x.2.2) := hx1.mono fun k hk e => by have := (hi0.1.2.lt k e.symm).2; omega
          have HX1 := Lib.hid hxo; have HI := Lib.hid hi
          dsimp only [encA]
          clear hx1 hx2 hx3 hi0 hX hi hxo
          gi_wp2
          exact hC _ _ ((KeepsOthers.alloc X _).from _) ((Below.refl _ X).alloc (Nat.le_refl _) _) ⟨X.heap.size, ⟨⟨HI.out.2.2.1, fun e => by have := (HI.out.1.2.lt _ e.symm).2; omega⟩, alloc_new X _⟩, HX1.out.keep fun k cs fz _ hh => (Below.heap_alloc X _ k (Array.getElem?_eq_some_iff.1 hh).1).trans hh, rfl⟩
        case body =>
          rintro l s pre ⟨x, xa, xc⟩ a' X hI hlen2 ⟨bx, ⟨⟨hbx1, hbx2⟩, hbx⟩, hxin, rfl⟩
          dsimp only at hbx hxin ⊢
          obtain ⟨sa, sc, rfl⟩ := row_slice hI.1.2
          obtain ⟨x0, x1, x2⟩ := three_cells hbx
          have p0 : X.cell? ⟨P, 0, none⟩ = some (.slice sa pre.length sc) := by rw [Lib.cell_of_heap hI.1.1]; rfl
          have fp := Lib.frozen_of_heap hI.1.1 0
          have lp := (Array.getElem?_eq_some_iff.1 hI.1.1).1
          have lx := (Array.getElem?_eq_some_iff.1 hbx).1
          have hM := hI.2.2.1
          have HI := Lib.hid hI; have HX := Lib.hid hxin
          have hrow : ∀ o : Obj, ((X.alloc o).drew).ownsRow W4.heap.size 29 3 (.slice sa pre.length sc) pre.length (cellsOf pre) := fun o => row_kept hI.1.2 fun k cs fz hk => (Below.heap_alloc X o k (Array.getElem?_eq_some_iff.1 hk).1).trans hk
          have HRow := Lib.hid hrow
          have hpl : pre.length ≤ 1000 := by omega
          have hix : ((pre.length : Int) < ((pre.length + 1 : Nat) : Int)) := by omega
          have hix1 : ((pre.length : Int) < (pre.length : Int) + 1) := by omega
          have hix0 : ((0 : Int) ≤ (pre.length : Int)) := by omega
          clear hI hxin hbx hrow
          gi_wp2
          refine wpIn_region_any (by kernel_rfl) ?_
          try (change wpAnyIn _ _ _ _ _ _ _ _ _ (World.drew _))
          repeat' (first
            | exact AllReadyIn.nil
            | (refine wpAnyIn_ready (rs := [0, 1, 3]) (by decide +kernel) (by simp) ?_) | (refine wpAnyIn_ready (rs := [1, 2, 3]) (by decide +kernel) (by simp) ?_) | (refine wpAnyIn_ready (rs := [0, 3]) (by decide +kernel) (by simp) ?_) | (refine wpAnyIn_ready (rs := [0, 1]) (by decide +kernel) (by simp) ?_) | (refine wpAnyIn_ready (rs := [2, 3]) (by decide +kernel) (by simp) ?_) | (refine wpAnyIn_ready (rs := [1, 3]) (by decide +kernel) (by simp) ?_) | (refine wpAnyIn_ready (rs := [1, 2]) (by decide +kernel) (by simp) ?_) | (refine wpAnyIn_ready (rs := [0]) (by decide +kernel) (by simp) ?_) | (refine wpAnyIn_ready (rs := [1]) (by decide +kernel) (by simp) ?_) | (refine wpAnyIn_ready (rs := [2]) (by decide +kernel) (by simp) ?_) | (refine wpAnyIn_ready (rs := [3]) (by decide +kernel) (by simp) ?_)
            | (refine AllReadyIn.cons rfl (fun K hK => ?_) ?_)
            | (go_simp; refine hK _ _ ?_; clear hK K))
          all_goals refine ?key
          case key =>
            repeat' (first
              | exact AllReadyIn.nil
              | (refine wpAnyIn_done (by decide +kernel) ?_ _)
              | (refine wpAnyIn_ready (rs := [4]) (by decide +kernel) (by simp) ?_) | (refine wpAnyIn_ready (rs := [5, 7]) (by decide +kernel) (by simp) ?_) | (refine wpAnyIn_ready (rs := [6, 7]) (by decide +kernel) (by simp) ?_) | (refine wpAnyIn_ready (rs := [5]) (by decide +kernel) (by simp) ?_) | (refine wpAnyIn_ready (rs := [6]) (by decide +kernel) (by simp) ?_) | (refine wpAnyIn_ready (rs := [7]) (by decide +kernel) (by simp) ?_)
              | (refine AllReadyIn.cons rfl (fun K hK => ?_) ?_)
              | (refine stepIn_append_lies _ (by rfl) _ _ 27 (by rfl) W4.heap.size 29 i0 (.agg #[.int .i64 0, .string ⟨#[]⟩, .slice none 0 0]) 3 48 Try.underlying27 hi hz0 hz1 hz2 rfl (by decide) _ pre.length (cellsOf pre) (by rfl) (HRow.out _) ⟨X.heap.size, 0, none⟩ 1 1 [.int .i64 0, .string ⟨#[]⟩, .slice none 0 0] (by rfl) rfl (World.news_of_block (alloc_new X _)) (by simp [Value.oneCell']) (by decide) (by unfold maxLen; omega) (by omega) (by simp; omega) ?_; intro g cap w1 hown hgrow hat; have m1 := row_last3 hown (cellsOf_len pre); obtain ⟨⟨g0, g1, g2⟩, lg, fg⟩ := m1; have q0 := (hgrow.block P (by simp; omega) (fun e => by have := (HI.out.1.2.lt P e.symm).1; omega)).trans ((Below.heap_alloc X _ P lp).trans HI.out.1.1); have p1 : w1.cell? ⟨P, 0, none⟩ = some (.slice sa pre.length sc) := (by rw [Lib.cell_of_heap q0]; rfl); have fp1 := Lib.frozen_of_heap q0 0; have lp1 := (Array.getElem?_eq_some_iff.1 q0).1; have f0 := fg (pre.length * 3); have f1 := fg (pre.length * 3 + 1); have f2 := fg (pre.length * 3 + 2); have hgM := (hown.lt g rfl).1; have hgP : g ≠ P := (by omega); have hPg : P ≠ g := (by omega); have HOW := Lib.hid hown; have HGR := Lib.hid hgrow; have HAT := Lib.hid hat; have HQ0 := Lib.hid q0; have HFG := Lib.hid fg; clear hown hgrow hat q0 fg; refine hK _ _ ?_; clear hK K)
              | (go_simp; refine hK _ _ ?_; clear hK K))
            all_goals
              have hgr : (X.alloc (.cells #[.int .i64 0, .string ⟨#[]⟩, .slice none 0 0] 29)).grownBy w1 (Value.slice sa pre.length sc).ownBlock := ⟨HGR.out.os, HGR.out.tape, HGR.out.output, HGR.out.size, HGR.out.block⟩
              have hne : ∀ k, k < X.heap.size → ¬ (k = P ∨ (Value.slice sa pre.length sc).ownBlock = some k) → k ≠ g := fun k hkX hk e => by
                subst e
                rcases HAT.out with e | e
                · exact hk (.inr e)
                · simp at e; omega
              have hlo : ∀ k, k < X.heap.size → ¬ (k = P ∨ (Value.slice sa pre.length sc).ownBlock = some k) → w1.heap[k]? = X.heap[k]? := fun k hkX hk => (hgr.block k (by simp; omega) (fun e => hk (.inr e.symm))).trans (Below.heap_alloc X _ k hkX)
              have hko := others_grownL HI.out.1.2 hgr
              have fa := fin_a (P := P) (.int .i64 x.kind) (.string x.name) (.slice xa x.kids.length xc) HOW.out (cellsOf_len pre) (by omega) HQ0.out (.slice (some ⟨g, 0, none⟩) (pre.length + 1) cap)
              have fb := fin_b (P := P) (.int .i64 x.kind) (.string x.name) (.slice xa x.kids.length xc) HOW.out (cellsOf_len pre) (by omega) HQ0.out (.slice (some ⟨g, 0, none⟩) (pre.length + 1) cap)
              have HH := Lib.hid (And.intro (And.intro hne hlo) (And.intro hko (And.intro hgr (And.intro fa fb))))
              clear hgr hne hlo hko fa fb
              gi_wp2
              obtain ⟨⟨hne, hlo⟩, hko, hgr, ⟨a1', a2', a3', a4'⟩, b1', b2', b3', b4'⟩ := HH.out
              first
                | exact ⟨(hko.trans ((((KeepsOthers.setCell _ _ _).trans (KeepsOthers.setCell _ _ _)).trans (KeepsOthers.setCell _ _ _)).trans (KeepsOthers.setCell _ _ _))).from _, fun k hk hkX => (b1' k (hne k hkX hk) (fun e => hk (.inl e))).trans (hlo k hkX hk), _, LI.fin (x := (x, xa, xc)) HI.out (by omega) HX.out hgr HAT.out rfl b1' b2' (by rw [List.length_append, cellsOf_append, cellsOf_one]; exact b3') (by simp) b4'⟩
                | exact ⟨(hko.trans ((((KeepsOthers.setCell _ _ _).trans (KeepsOthers.setCell _ _ _)).trans (KeepsOthers.setCell _ _ _)).trans (KeepsOthers.setCell _ _ _))).from _, fun k hk hkX => (a1' k (hne k hkX hk) (fun e => hk (.inl e))).trans (hlo k hkX hk), _, LI.fin (x := (x, xa, xc)) HI.out (by omega) HX.out hgr HAT.out rfl a1' a2' (by rw [List.length_append, cellsOf_append, cellsOf_one]; exact a3') (by simp) a4'⟩
        case done =>
          rintro D s xs W hD hxs hI hK
          obtain ⟨sa, sc, rfl⟩ := row_slice hI.1.2
          have hbW : Below V0.heap.size V0 W := by rw [HPs.out]; exact hI.2.2.2
          have hxl : xs.length = (parts t).length := by rw [← hxs]; simp
          have hrow : TysAt W (.slice sa xs.length sc) (parts t) := by rw [← hxs]; exact tys_of_row hI.1.2 fun x hx => (hI.2.1 x hx).tys
          have HS := Lib.hid (show SI w bt bu P D t u pa pb ca cb (.slice sa xs.length sc) W from ⟨⟨HT.out.below hbW, HUx.out.below hbW, HVx.out.below hbW⟩, ⟨hI.1.1, hrow⟩, HBw.out.trans (hbW.mono HBw.out.size), hK⟩)
          rw [hxl] at HS
          clear hrow hbW hI hK hxs hPl u0 u1 HT HUx HVx
          clear hi hz0 hz1 hz2
          have nmt := good_nm t HG.out.1
          have nmu := good_nm u HGU.out.1
          obtain ⟨q2, hq2⟩ : ∃ q, fvs [] [] [t, u] = q := ⟨_, rfl⟩
          obtain ⟨q1, hq1⟩ : ∃ q, fvs [] [] [T.all ⟨#[97]⟩ t] = q := ⟨_, rfl⟩
          obtain ⟨q0, hq0⟩ : ∃ q, fvs [] [] [t] = q := ⟨_, rfl⟩
          have lq2 : q2.length ≤ 1000000 := by have := fvs_len [t, u] [] []; rw [hq2] at this; simp [tsizes] at this; omega
          have lq1 : q1.length ≤ 1000000 := by have := fvs_len [T.all ⟨#[97]⟩ t] [] []; rw [hq1] at this; simp [tsizes, tsize] at this; omega
          have lq0 : q0.length ≤ 1000000 := by have := fvs_len [t] [] []; rw [hq0] at this; simp [tsizes] at this; omega
          have c1 := fun (V : World) (k : Nat) (h : TysAt V (.slice (some ⟨k, 0, none⟩) 2 2) [t, u]) => (show Calls Try.prog 11 #[.slice (some ⟨k, 0, none⟩) 2 2] V _ from vars_any [t, u] (fun x hx => by simp at hx; rcases hx with rfl | rfl; exact nmt; exact nmu) (by simp [tsizes]; omega) _ _ V h)
          have c2 := fun (V : World) (k : Nat) (h : TysAt V (.slice (some ⟨k, 0, none⟩) 1 1) [T.all ⟨#[97]⟩ t]) => (show Calls Try.prog 11 #[.slice (some ⟨k, 0, none⟩) 1 1] V _ from vars_any [T.all ⟨#[97]⟩ t] (fun x hx => by simp at hx; subst hx; exact nm_all (by decide) nmt) (by simp [tsizes, tsize]; omega) _ _ V h)
          have c3 := fun (V : World) (k : Nat) (h : TysAt V (.slice (some ⟨k, 0, none⟩) 2 2) [t, u]) => (show Calls Try.prog 12 #[.slice (some ⟨k, 0, none⟩) 2 2] V _ from rVars_any [t, u] (by simp [tsizes]; omega) _ _ V h)
          have c4 := fun (V : World) (k : Nat) (h : TysAt V (.slice (some ⟨k, 0, none⟩) 1 1) [T.all ⟨#[97]⟩ t]) => (show Calls Try.prog 12 #[.slice (some ⟨k, 0, none⟩) 1 1] V _ from rVars_any [T.all ⟨#[97]⟩ t] (by simp [tsizes, tsize]; omega) _ _ V h)
          have c5 := fun (V : World) (k : Nat) (h : TysAt V (.slice (some ⟨k, 0, none⟩) 1 1) [t]) => (show Calls Try.prog 12 #[.slice (some ⟨k, 0, none⟩) 1 1] V _ from rVars_any [t] (by simp [tsizes]; omega) _ _ V h)
          rw [hq2] at c1 c3; rw [hq1] at c2 c4; rw [hq0] at c5
          have c6 := fun (V : World) (q : List ByteArray) (hq : q.length ≤ 1000000) (a b : Option Addr) (c d : Nat) (h : TextsAt V (.slice a q.length c) q) (h' : TextsAt V (.slice b q.length d) q) => (show Calls Try.prog 10 #[.slice a q.length c, .slice b q.length d] V fun e w' => e = .returned (.bool true) ∧ Below V.heap.size V w' from by have := sameTexts_any q q (by omega) a b c d V h h'; rw [eqB_true rfl] at this; exact this)
          have c7 := fun (V : World) (h : SI w bt bu P D t u pa pb ca cb (.slice sa (parts t).length sc) V) => has_any (m := nm) (t := t) (w := V) (by omega) h.1.1.2
          rw [has_inB t nm, hq0] at c7
          have c8 := fun (V : World) (a : Option Addr) (c : Nat) (h : TextsAt V (.slice a q0.length c) q0) => hasR_any q0 (by omega) nm a c V h
          obtain ⟨hv, hhv⟩ : ∃ b, inB q0 nm = b := ⟨_, rfl⟩
          rw [hhv] at c7 c8
          have c9 := fun (V : World) (h : SI w bt bu P D t u pa pb ca cb (.slice sa (parts t).length sc) V) => size_any (t := t) (w := V) (by omega) h.1.1.2
          have c10 := fun (V : World) (h : SI w bt bu P D t u pa pb ca cb (.slice sa (parts t).length sc) V) => rsize_any (t := t) (w := V) (by omega) h.1.1.2
          have c11 := fun (V : World) (h : SI w bt bu P D t u pa pb ca cb (.slice sa (parts t).length sc) V) => rall_any (t := t) (w := V) (by omega) h.1.1.2.tyIn
          have c12 := fun (V : World) (a : Option Addr) (c : Nat) (h : SI w bt bu P D t u pa pb ca cb (.slice sa (parts t).length sc) V) (h' : TysAt V (.slice a (parts t).length c) (parts t)) => (show Calls Try.prog 17 #[.slice sa (parts t).length sc, .slice a (parts t).length c] V fun e w' => e = .returned (.bool true) ∧ Below V.heap.size V w' from by have := sameTypes_of (parts t) (parts t) (fun x hx => sameType_ok (fits_parts t HG.out.2.1 x hx)) sa a sc c V h.2.1.2 h' (by omega); rw [eqB_true rfl] at this; exact this)
          have c13 := fun (V : World) (h : SI w bt bu P D t u pa pb ca cb (.slice sa (parts t).length sc) V) => compare_any (w := V) HG.out.2.1 h.1.1.2 h.1.2.1.2
          have c14 := fun (V : World) (h : SI w bt bu P D t u pa pb ca cb (.slice sa (parts t).length sc) V) => rcmp_any (w := V) (by omega) h.1.1.2 h.1.2.1.2
          have c15 := fun (V : World) (h : SI w bt bu P D t u pa pb ca cb (.slice sa (parts t).length sc) V) => same_any (w := V) HG.out.2.1 h.1.1.2 h.1.2.1.2
          have c16 := fun (V : World) (h : SI w bt bu P D t u pa pb ca cb (.slice sa (parts t).length sc) V) => same_any (w := V) HG.out.2.1 h.1.1.2 h.1.1.2
          have c17 := fun (V : World) (h : SI w bt bu P D t u pa pb ca cb (.slice sa (parts t).length sc) V) => sameType_any (w := V) HG.out.2.1 h.1.1.2 h.1.2.1.2
          rw [cmp_eqB t u] at c17
          rw [(cmp_zero t t).2 rfl] at c16
          obtain ⟨pc, hpc⟩ : ∃ p, cmpT t u = p := ⟨_, rfl⟩
          rw [hpc] at c13 c14 c15 c17
          obtain ⟨zc, hzc⟩ : ∃ b, (pc == 0) = b := ⟨_, rfl⟩
          rw [hzc] at c15 c17
          have e00 : ((0 : Int) == 0) = true := rfl
          rw [e00] at c16
          obtain ⟨ts, hts'⟩ : ∃ n, tsize t = n := ⟨_, rfl⟩
          rw [hts'] at c9 c10
          simp only [tyV] at c7 c9 c10 c11 c13 c14 c15 c16 c17
          have HV2 := Lib.hid c1; have HV1 := Lib.hid c2; have HR2 := Lib.hid c3; have HR1 := Lib.hid c4; have HR0 := Lib.hid c5; have HST := Lib.hid c6; have HHas := Lib.hid c7; have HHr := Lib.hid c8; have HSz := Lib.hid c9; have HRSz := Lib.hid c10; have HAll := Lib.hid c11; have HSTy := Lib.hid c12; have HCm := Lib.hid c13; have HRCm := Lib.hid c14; have HSm := Lib.hid c15; have HSt := Lib.hid c16; have HSTp := Lib.hid c17
          clear c1 c2 c3 c4 c5 c6 c7 c8 c9 c10 c11 c12 c13 c14 c15 c16 c17 hq2 hq1 hq0 hhv hpc hzc hts' e00 nmt nmu hts hus hlen
          gi_wp2
          refine wpIn_wide.2 ?_
          simp only [List.append_eq, List.cons_append, List.nil_append]
          refine say_here (q2 := q2) (q1 := q1) (q0 := q0) (hv := hv) (zc := zc) (ts := ts) (pc := pc) (fun V k h => (HV2.out V k h).mono (by rintro e Y ⟨⟨v, rfl, hv⟩, _, hb⟩; obtain ⟨va, vc, rfl⟩ := hv.shape; exact ⟨va, vc, rfl, hv, hb⟩)) (fun V k h => (HV1.out V k h).mono (by rintro e Y ⟨⟨v, rfl, hv⟩, _, hb⟩; obtain ⟨va, vc, rfl⟩ := hv.shape; exact ⟨va, vc, rfl, hv, hb⟩)) (fun V k h => (HR2.out V k h).mono (by rintro e Y ⟨⟨v, rfl, hv⟩, hb⟩; obtain ⟨va, vc, rfl⟩ := hv.shape; exact ⟨va, vc, rfl, hv, hb⟩)) (fun V k h => (HR1.out V k h).mono (by rintro e Y ⟨⟨v, rfl, hv⟩, hb⟩; obtain ⟨va, vc, rfl⟩ := hv.shape; exact ⟨va, vc, rfl, hv, hb⟩)) (fun V k h => (HR0.out V k h).mono (by rintro e Y ⟨⟨v, rfl, hv⟩, hb⟩; obtain ⟨va, vc, rfl⟩ := hv.shape; exact ⟨va, vc, rfl, hv, hb⟩)) (fun V a b c d h h' => (HST.out V q2 lq2 a b c d h h').mono (by rintro e Y ⟨rfl, hb⟩; exact ⟨rfl, hb⟩)) (fun V a b c d h h' => (HST.out V q1 lq1 a b c d h h').mono (by rintro e Y ⟨rfl, hb⟩; exact ⟨rfl, hb⟩)) (fun V h => (HHas.out V h).mono (by rintro e Y ⟨rfl, hb⟩; exact ⟨rfl, hb⟩)) (fun V a c h => (HHr.out V a c h).mono (by rintro e Y ⟨rfl, rfl⟩; exact ⟨rfl, Below.refl _ _⟩)) (fun V h => (HSz.out V h).mono (by rintro e Y ⟨rfl, hb⟩; exact ⟨rfl, hb⟩)) (fun V h => (HRSz.out V h).mono (by rintro e Y ⟨rfl, hb⟩; exact ⟨rfl, hb⟩)) (fun V h => (HAll.out V h).mono (by rintro e Y ⟨⟨v, rfl, hv⟩, hb⟩; obtain ⟨va, vc, rfl⟩ := hv.shape; exact ⟨va, vc, rfl, hv, hb⟩)) (fun V a c h h' => (HSTy.out V a c h h').mono (by rintro e Y ⟨rfl, hb⟩; exact ⟨rfl, hb⟩)) (fun V h => (HCm.out V h).mono (by rintro e Y ⟨rfl, hb⟩; exact ⟨rfl, hb⟩)) (fun V h => (HRCm.out V h).mono (by rintro e Y ⟨rfl, hb⟩; exact ⟨rfl, hb⟩)) (fun V h => (HSm.out V h).mono (by rintro e Y ⟨rfl, hb⟩; exact ⟨rfl, hb⟩)) (fun V h => (HSt.out V h).mono (by rintro e Y ⟨rfl, hb⟩; exact ⟨rfl, hb⟩)) (fun V h => (HSTp.out V h).mono (by rintro e Y ⟨rfl, hb⟩; exact ⟨rfl, hb⟩)) W (by kernel_rfl) (by kernel_rfl) (by kernel_rfl) (by kernel_rfl) (by kernel_rfl) (by kernel_rfl) (by kernel_rfl) (by kernel_rfl) (SI.below HS.out (below_d _)) ?_
          clear HV2 HV1 HR2 HR1 HR0 HST HHas HHr HSz HRSz HAll HSTy HCm HRCm HSm HSt HSTp
          intro x V hV hx
          simp only [sayFr, hx]
          simp only [Array.getD_eq_getD_getElem?, List.getElem?_toArray, List.getElem?_cons_succ, List.getElem?_cons_zero, Option.getD_some]
          gi_wp2
          have zd := hV.2.2.2
          have hDw : w.heap.size ≤ D := by have := HBw.out.size; have := HPs.out; omega
          have zB := hV.2.2.1.trans (belowK_b (w := w) (Nat.le_refl _) V D _ (.deferred none) hDw zd rfl rfl)
          refine ⟨by simp, .inl ⟨_, _, rfl, run_takeDeferred zd, ?_⟩⟩
          exact ⟨.bool true, by simp [results, Try.results3, go_sem], rfl, zB⟩
        case stop => exact fun D pre W hD hS h hK => h.elim
      · clear HL1 HL2
        have hb1D : decide ((100 : Int) < (n1 : Int)) = false := by simp; omega
        have hb2D : decide ((100 : Int) < (n2 : Int)) = false := by simp; omega
        have hb3D : decide ((40 : Int) < (nm.size : Int)) = true := by simp; omega
        go_enter Try.func3, Try.ntmps3
        go_wp2_with (go_at_call 7; refine (first_any _).mono ?_; rintro e w1 ⟨rfl, h1⟩; have HB1 := Lib.hid h1; clear h1)
        exact bodyPost_ret (v := .bool true) (by simp [results, Try.results3, go_sem]) rfl ⟨rfl, HB1.out⟩
    · clear HL1 HL2
      have hb1D : decide ((100 : Int) < (n1 : Int)) = false := by simp; omega
      have hb2D : decide ((100 : Int) < (n2 : Int)) = true := by simp; omega
      go_enter Try.func3, Try.ntmps3
      go_wp2_with (go_at_call 7; refine (first_any _).mono ?_; rintro e w1 ⟨rfl, h1⟩; have HB1 := Lib.hid h1; clear h1)
      exact bodyPost_ret (v := .bool true) (by simp [results, Try.results3, go_sem]) rfl ⟨rfl, HB1.out⟩
  · clear HL1 HL2
    have hb1D : decide ((100 : Int) < (n1 : Int)) = true := by simp; omega
    go_enter Try.func3, Try.ntmps3
    go_wp2_with (go_at_call 7; refine (first_any _).mono ?_; rintro e w1 ⟨rfl, h1⟩; have HB1 := Lib.hid h1; clear h1)
    exact bodyPost_ret (v := .bool true) (by simp [results, Try.results3, go_sem]) rfl ⟨rfl, HB1.out⟩
end Go.Proofs.Yteoelcefjjmjiaa
