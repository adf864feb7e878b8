/- TypesFuns, walked. -/
import Derived.Test.YteoelcefjjmjiaaFunsB
import Derived.Test.YteoelcefjjmjiaaFunsR
import Derived.IntWalk
namespace Go.Proofs.Yteoelcefjjmjiaa
open Go.RowKit
attribute [local go_sem] Oper.semAt_some

theorem mod8 (z : Int) : ∃ nn : Nat, nn < 8 ∧ (wrap64 (z.tmod 8 + 8)).tmod 8 = (nn : Int) := by
  have k1 := Int.tmod_lt_of_pos z (show (0 : Int) < 8 by omega)
  have k2 := Int.lt_tmod_of_pos z (show (0 : Int) < 8 by omega)
  have e : wrap64 (z.tmod 8 + 8) = z.tmod 8 + 8 := by unfold wrap64; omega
  rw [e]
  have k3 := Int.tmod_lt_of_pos (z.tmod 8 + 8) (show (0 : Int) < 8 by omega)
  have k4 := Int.tmod_nonneg 8 (show 0 ≤ z.tmod 8 + 8 by omega)
  exact ⟨((z.tmod 8 + 8).tmod 8).toNat, by omega, by omega⟩
theorem FnI.start {w w1 : World} {a : Option Addr} {n c nn : Nat} {o : Obj} (h : SeqAt w.heap.size w1.heap.size a n c 0 (w1.alloc o)) (hb : Below w.heap.size w w1) : FnI w w1.heap.size a n c nn (.slice none 0 0) [] (w1.alloc o) :=
  ⟨⟨Nat.zero_le _, fun e => absurd e (by simp), by simp [tsizes]⟩, ⟨World.ownsRow_nil _ _ _ _, fun _ h => nomatch h⟩, ⟨0, h, by simp⟩, hb.alloc hb.size _, by simp⟩

def nList : ByteArray := ⟨#[76, 105, 115, 116]⟩
theorem con_list (t : T) (hs : tsize t ≤ 1000) : ∃ q, isFnT q = false ∧ tsize q = tsize t + 1 ∧ ∀ (w : World) (b : Nat), TysAt w (.slice (some ⟨b, 0, none⟩) 1 1) [t] →
    Calls Try.prog 23 #[.string ⟨#[76, 105, 115, 116]⟩, .slice (some ⟨b, 0, none⟩) 1 1] w fun e w' => (∃ a c, e = .returned (.agg #[.int .i64 q.kind, .string q.name, .slice a q.kids.length c]) ∧ TyIn (fun k => w.heap.size < k) w' q (.slice a q.kids.length c)) ∧ Below w.heap.size w w' :=
  ⟨.con nList [t], rfl, by simp only [tsize, tsizes]; omega, fun w b h => tcon_any nList [t] _ w (by simp only [tsizes]; omega) h⟩
theorem fn_round {w : World} {p : Nat} {a : Option Addr} {n c nn g cap : Nat} {xs : List Tl} {x : Tl} {X : World} (h : FnI w p a n c nn (.slice (some ⟨g, 0, none⟩) (xs ++ [x]).length cap) (xs ++ [x]) X) (hlt : xs.length ≤ nn) :
    (∃ (ys : List Tl), Value.int .i64 ((tsizes (xs.map (·.1)) : Nat) + (tsize x.1 : Nat) : Int) = .int .i64 (tsizes (ys.map (·.1)) : Nat) ∧ Value.int .i64 ((xs.length : Int) + 1) = .int .i64 (ys.length : Nat) ∧ Hid (FnI w p a n c nn (.slice (some ⟨g, 0, none⟩) (xs.length + 1) cap) ys X)) ∧
    nn + 1 - (intOf (.int .i64 ((xs.length : Int) + 1))).toNat < nn + 1 - (intOf (.int .i64 (xs.length : Nat))).toNat := by
  rw [List.length_append, List.length_singleton] at h
  refine ⟨⟨xs ++ [x], congrArg (Value.int .i64) ?_, congrArg (Value.int .i64) (by simp), Lib.hid h⟩, by simp [intOf]; omega⟩
  rw [List.map_append, List.map_cons, List.map_nil, tsizes_snoc]; omega

set_option maxRecDepth 100000 in
set_option maxHeartbeats 8000000 in
theorem funs_law (a : Option Addr) (n c : Nat) (m : Int) (w : World) (hl : IntsAt w.heap.size a n w) :
    Calls Try.prog 4 #[.slice a n c, .int .i64 m] w fun e w' => e = .returned (.bool true) ∧ Below w.heap.size w w' := by
  have HL := Lib.hid hl
  obtain ⟨i0, hi, hz0, hz1, hz2⟩ := info_parts Try.infoTy
  clear hl
  by_cases hb : n ≤ 100
  · have hn : n < 1152921504606846976 := by omega
    have hbI : ¬ ((100 : Int) < (n : Int)) := by omega
    have hbD : decide ((100 : Int) < (n : Int)) = false := by simpa using hbI
    obtain ⟨nn, hnn, hm⟩ := mod8 m
    go_enter Try.func4, Try.ntmps4
    go_wp2_with (go_at_call 7; refine (first_any _).mono ?_; rintro e w1 ⟨rfl, h1⟩; have HB1 := Lib.hid h1; clear h1)
    have HI0 := Lib.hid (FnI.start (nn := nn) (seq_new (c := c) HB1.out HL.out) HB1.out)
    generalize w1.alloc (.cells #[.slice a n c, .int .i64 0] 26) = W0 at *
    generalize w1.heap.size = p at *
    go_loopw [7, 8, 9] (fun vr vs vi wr => ∃ (xs : List Tl), vs = .int .i64 (tsizes (xs.map (·.1)) : Nat) ∧ vi = .int .i64 (xs.length : Nat) ∧ Hid (FnI w p a n c nn vr xs wr)) (fun _ _ vi _ => nn + 1 - (intOf vi).toNat)
    case atStart => exact ⟨[], rfl, rfl, HI0⟩
    case round =>
      obtain ⟨xs, rfl, rfl, HI⟩ := hrel
      by_cases hlt : xs.length ≤ nn
      · have hltI : ((xs.length : Int) ≤ (nn : Int)) := by omega
        obtain ⟨k, hs, hk⟩ := HI.out.2.2.1
        have HS := Lib.hid hs
        clear hs
        go_wp2_with (go_at_call 8; refine (make_n2 _ _ _ _ _ _ _ HS.out (by omega) hn).mono ?_)
        rintro e W1 ⟨⟨t, u, rfl, hg, hu⟩, ⟨k2, hk2, hs2⟩, hf⟩
        obtain ⟨a2, c2, rfl⟩ := hu.shape
        have HX := Lib.hid (HI.out.made HS.out hk hu hk2 hs2 hf)
        have hts : tsize t ≤ 46 := by have := tsize_text t hg.1; have := hg.2.2; omega
        have hsz := HI.out.1.2.2
        have hI1 := HI.out.1.1
        clear hu hs2 hf hg hk2 HI HS
        simp only [tyV]
        have HBx0 := Lib.hid (alloc_new W1 (.cells #[.int .i64 t.kind, .string t.name, .slice a2 t.kids.length c2] 29))
        by_cases hl : xs.length = nn
        · have hlI : ((xs.length : Int) = (nn : Int)) := by omega
          by_cases hk3 : t.kind = 3
          · have hkI : ((t.kind : Int) = 3) := by omega
            obtain ⟨q, hlast', hqs, hQ⟩ := con_list t (by omega)
            have HQ := Lib.hid hQ
            have HTy := Lib.hid (show ∀ o, TyAt (W1.alloc o) t (.int .i64 3) (.string t.name) (.slice a2 t.kids.length c2) from fun o => by have h9 := TyAt.mk t (HX.out.2.1.tys.keep (keepT_alloc W1 o)); rw [hk3] at h9; exact h9)
            clear HBx0
            have HBx0 := Lib.hid (alloc_new W1 (.cells #[.int .i64 3, .string t.name, .slice a2 t.kids.length c2] 29))
            have hts2 : tsize q ≤ 64 := by omega
            have hlast : xs.length = nn → isFnT q = false := fun _ => hlast'
            clear hQ hqs
            go_wp2_with (first
            | (go_at_call 23; refine (HQ.out _ (W1.heap.size + 1) (TysAt.one (by simp) (HTy.out _))).mono ?_; rintro e V ⟨⟨a4, c4, rfl, h4⟩, hb4⟩; have hbV := (hb4.block W1.heap.size (by simp <;> omega)).trans ((Below.heap_alloc _ _ _ (by simp <;> omega)).trans HBx0.out); have HXa := Lib.hid (HX.out.con hb4 h4 (.int .i64 q.kind) (.string q.name) (.slice a4 q.kids.length c4)); have HBx := Lib.hid (set3_block hbV (.int .i64 q.kind) (.string q.name) (.slice a4 q.kids.length c4)); have hVs : W1.heap.size + 1 + 1 ≤ V.heap.size := (by have := hb4.size; simpa using this); obtain ⟨d0, d1, d2⟩ := three_cells hbV; have g0 := Lib.frozen_of_heap hbV 0; have g1 := Lib.frozen_of_heap hbV 1; have g2 := Lib.frozen_of_heap hbV 2; have lV := (Array.getElem?_eq_some_iff.1 hbV).1; clear hb4 h4 hbV)
            | ((at_builtin; refine wpList_append_lies _ rfl _ _ 27 rfl (p + 1) 29 i0 (.agg #[.int .i64 0, .string ⟨#[]⟩, .slice none 0 0]) 3 48 Try.underlying27 hi hz0 hz1 hz2 rfl (by decide) _ _ _ rfl ((HXa.out.1.1).alloc _) ⟨V.heap.size, 0, none⟩ 1 1 [.int .i64 (q).kind, .string (q).name, .slice a4 (q).kids.length c4] rfl rfl (cell_new3g (by simp) _ _ _ _) (by simp [Value.oneCell']) (by decide) (by unfold maxLen; omega) (by omega) (by have := HX.out.2.2.2.2; simp <;> omega) _ rfl ?_; intro g3 cap3 w3 ho3 hg3 hat3 hlt3; have HN := Lib.hid (HXa.out.next (by omega) hsz hts2 hlast ho3 hg3 hat3); have hb3 := (hg3.block W1.heap.size (by simp <;> omega) (fun e => by have := (HX.out.1.1.lt _ e.symm).2; omega)).trans ((Below.heap_alloc _ _ _ (by simp <;> omega)).trans HBx.out); obtain ⟨y0, y1, y2⟩ := three_cells hb3; have ly := (Array.getElem?_eq_some_iff.1 hb3).1; clear ho3 hg3 hat3 hb3))
            | (go_at_call 15; refine (size_any (t := q) (by omega) ((HN.out.2.1.2 _ (List.mem_append_right _ (List.mem_singleton_self _))).tys)).mono ?_; rintro e w4 ⟨rfl, hb4⟩; have HN4 := Lib.hid (HN.out.below hb4); clear hb4 HN y0 y1 y2 ly))
            have hr := fn_round HN4.out hlt
            rw [hl] at hr ⊢
            exact hr
          · have hkI : ¬ ((t.kind : Int) = 3) := by omega
            have HBx := HBx0
            have HXa := Lib.hid (HX.out.alloc (.cells #[.int .i64 t.kind, .string t.name, .slice a2 t.kids.length c2] 29))
            have hts2 : tsize t ≤ 64 := by omega
            have hlast : xs.length = nn → isFnT t = false := fun _ => isFnT_kind (by simpa using hk3)
            go_wp2_with (first
            | ((at_builtin; refine wpList_append_lies _ rfl _ _ 27 rfl (p + 1) 29 i0 (.agg #[.int .i64 0, .string ⟨#[]⟩, .slice none 0 0]) 3 48 Try.underlying27 hi hz0 hz1 hz2 rfl (by decide) _ _ _ rfl ((HXa.out.1.1).alloc _) ⟨W1.heap.size + 1, 0, none⟩ 1 1 [.int .i64 (t).kind, .string (t).name, .slice a2 (t).kids.length c2] rfl rfl (cell_new3g (by simp) _ _ _ _) (by simp [Value.oneCell']) (by decide) (by unfold maxLen; omega) (by omega) (by have := HX.out.2.2.2.2; simp <;> omega) _ rfl ?_; intro g3 cap3 w3 ho3 hg3 hat3 hlt3; have HN := Lib.hid (HXa.out.next (by omega) hsz hts2 hlast ho3 hg3 hat3); have hb3 := (hg3.block W1.heap.size (by simp <;> omega) (fun e => by have := (HX.out.1.1.lt _ e.symm).2; omega)).trans ((Below.heap_alloc _ _ _ (by simp <;> omega)).trans HBx.out); obtain ⟨y0, y1, y2⟩ := three_cells hb3; have ly := (Array.getElem?_eq_some_iff.1 hb3).1; clear ho3 hg3 hat3 hb3))
            | (go_at_call 15; refine (size_any (t := t) (by omega) ((HN.out.2.1.2 _ (List.mem_append_right _ (List.mem_singleton_self _))).tys)).mono ?_; rintro e w4 ⟨rfl, hb4⟩; have HN4 := Lib.hid (HN.out.below hb4); clear hb4 HN y0 y1 y2 ly))
            have hr := fn_round HN4.out hlt
            rw [hl] at hr ⊢
            exact hr
        · have hlI : ¬ ((xs.length : Int) = (nn : Int)) := by omega
          have HBx := HBx0
          have HXa := Lib.hid (HX.out.alloc (.cells #[.int .i64 t.kind, .string t.name, .slice a2 t.kids.length c2] 29))
          have hts2 : tsize t ≤ 64 := by omega
          have hlast : xs.length = nn → isFnT t = false := fun e => absurd e hl
          go_wp2_with (first
          | ((at_builtin; refine wpList_append_lies _ rfl _ _ 27 rfl (p + 1) 29 i0 (.agg #[.int .i64 0, .string ⟨#[]⟩, .slice none 0 0]) 3 48 Try.underlying27 hi hz0 hz1 hz2 rfl (by decide) _ _ _ rfl ((HXa.out.1.1).alloc _) ⟨W1.heap.size + 1, 0, none⟩ 1 1 [.int .i64 (t).kind, .string (t).name, .slice a2 (t).kids.length c2] rfl rfl (cell_new3g (by simp) _ _ _ _) (by simp [Value.oneCell']) (by decide) (by unfold maxLen; omega) (by omega) (by have := HX.out.2.2.2.2; simp <;> omega) _ rfl ?_; intro g3 cap3 w3 ho3 hg3 hat3 hlt3; have HN := Lib.hid (HXa.out.next (by omega) hsz hts2 hlast ho3 hg3 hat3); have hb3 := (hg3.block W1.heap.size (by simp <;> omega) (fun e => by have := (HX.out.1.1.lt _ e.symm).2; omega)).trans ((Below.heap_alloc _ _ _ (by simp <;> omega)).trans HBx.out); obtain ⟨y0, y1, y2⟩ := three_cells hb3; have ly := (Array.getElem?_eq_some_iff.1 hb3).1; clear ho3 hg3 hat3 hb3))
          | (go_at_call 15; refine (size_any (t := t) (by omega) ((HN.out.2.1.2 _ (List.mem_append_right _ (List.mem_singleton_self _))).tys)).mono ?_; rintro e w4 ⟨rfl, hb4⟩; have HN4 := Lib.hid (HN.out.below hb4); clear hb4 HN y0 y1 y2 ly))
          exact fn_round HN4.out hlt
      · have hltI : ¬ ((xs.length : Int) ≤ (nn : Int)) := by omega
        have hfull : xs.length = nn + 1 := by have := HI.out.1.1; omega
        obtain ⟨l, tx, hlx, hll, hfx⟩ : ∃ l tx, xs.map (·.1) = l ++ [tx] ∧ l.length = nn ∧ isFnT tx = false := by
          obtain ⟨ys, y, e, he⟩ := HI.out.1.2.1 hfull
          refine ⟨ys.map (·.1), y.1, by rw [e]; simp, ?_, he⟩
          have := congrArg List.length e
          simp at this ⊢; omega
        have hrow := tys_of_row HI.out.2.1.1 (fun y hy => (HI.out.2.1.2 y hy).tys)
        rw [hlx] at hrow
        have hsz := HI.out.1.2.2
        rw [hlx, tsizes_snoc] at hsz
        subst hll
        rw [hfull] at hsz
        obtain ⟨qa, qc, rfl⟩ := hrow.shape
        rw [List.length_append, List.length_singleton] at hrow ⊢
        obtain ⟨g, xa, xc, rfl, hgc, hlc⟩ := last_of hrow
        have HRow := Lib.hid hrow; have HLc := Lib.hid hlc; have HBw := Lib.hid HI.out.2.2.2.1
        obtain ⟨sz, hsz1⟩ : ∃ sz, tsizes (l ++ [tx]) = sz := ⟨_, rfl⟩
        have hsz2 : tsizes l + tsize tx = sz := by rw [← hsz1, tsizes_snoc]
        rw [hlx, hsz1, hfull]
        clear hrow hlc HI hsz1 hlx hfull
        have hTf := funT_sizes l tx
        have HFun := Lib.hid (tfun_any l tx _ wr (by omega) HRow.out)
        have HF2 := Lib.hid (fun (w : World) (a : Option Addr) (c : Nat) h => parts_any l tx a c w hfx (by omega) h)
        obtain ⟨tf, htf⟩ : ∃ tf, funT l tx = tf := ⟨_, rfl⟩
        rw [htf] at HFun HF2 hTf
        simp only [tyV] at HFun HF2
        clear htf hltI hlt
        go_wp2_with (first
          | (go_at_call 24; refine HFun.out.mono ?_; rintro e w2 ⟨⟨fa, fc, rfl, hf1⟩, hb2⟩; have Hf1 := Lib.hid hf1.tys; have Hb2 := Lib.hid hb2; clear hf1 hb2 HFun)
          | (go_at_call 25; refine (HF2.out _ _ _ (Hf1.out.keep (keepT_alloc w2 _))).mono ?_; rintro e w3 ⟨⟨pa, pc, za, zc, rfl, t1, t2⟩, hb3⟩; have T1 := Lib.hid t1; have T2 := Lib.hid t2; have Hb3 := Lib.hid hb3; clear t1 t2 hb3 HF2)
          | (go_at_call 24; refine (fun_nil _).mono ?_; rintro e w4 ⟨⟨ua, uc, rfl⟩, hb4⟩; have HFT := Lib.hid (ft_state (pa := pa) (pc := pc) (ua := ua) (uc := uc) HRow.out HLc.out HBw.out Hb2.out Hf1.out Hb3.out T1.out T2.out hb4); clear hb4 T1 T2 Hb3 Hf1 Hb2))
        refine fns_here (w := w) (g := g) (b11 := w2.heap.size) (b13 := w3.heap.size) (b14 := w4.heap.size) (sz := sz) (c := qc) (l := l) (tx := tx) (tf := tf) (xa := xa) (fa := fa) (ba := za) (ua := ua) (pa := pa) (xc := xc) (fc := fc) (bc := zc) (uc := uc) (pc := pc)
          (fun V h => sames_ret (by omega) (fun t ht => by have := size_mem ht; omega) h.1.2.2.1.2 h.1.1.1.init)
          (fun V h => same_ret (by omega) h.1.2.1.2.2 h.1.1.2.2.1)
          (fun V h => by have h9 := size_ret (t := tf) (n := sz + l.length) (by omega) (by omega) h.1.2.1.1.2; rwa [Int.natCast_add] at h9)
          (fun V h zg k => fun_one (by omega) k)
          (fun V h za zc k => same_ret (by omega) k h.1.1.2.2.1)
          _ (by kernel_rfl) (by kernel_rfl) (by kernel_rfl) (by kernel_rfl) (by kernel_rfl) (by kernel_rfl) (by kernel_rfl) (by kernel_rfl) (by kernel_rfl) (by kernel_rfl) ⟨HFT.out, by omega, by omega⟩ ?_
        intro x V2 hV2 hx
        simp only [fnsFr, hx]
        simp only [Array.getD_eq_getD_getElem?, List.getElem?_toArray, List.getElem?_cons_succ, List.getElem?_cons_zero, Option.getD_some]
        go_wp2
        go_ret
        exact ⟨rfl, hV2.1.2.2.2⟩
  · have hbI : ((100 : Int) < (n : Int)) := by omega
    go_enter Try.func4, Try.ntmps4
    go_wp2_with (go_at_call 7; refine (first_any _).mono ?_; rintro e w1 ⟨rfl, h1⟩; have HB1 := Lib.hid h1; clear h1)
    go_ret
    exact ⟨rfl, HB1.out⟩
end Go.Proofs.Yteoelcefjjmjiaa
