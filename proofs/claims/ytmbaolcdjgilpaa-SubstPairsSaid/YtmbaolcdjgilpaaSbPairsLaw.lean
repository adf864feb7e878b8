/- SubstPairs, walked. -/
import Derived.Test.YtmbaolcdjgilpaaSbPairsR
import Derived.Maps.AppendAt
import Derived.Deep.RegionHeld3
namespace Go.Proofs.Ytmbaolcdjgilpaa
open Go.RowKit Go.Sort Go.Lib
attribute [local go_sem] Oper.semAt_some

theorem prl_one (w w5 : World) (t : T) (pa : Option Addr) (ca : Nat) (vA : Value) (dA : List PR) (HB : Below w.heap.size w w5) (HR : w5.heap[w.heap.size]? = some (.cells #[.bool false] 4 (0, 0))) (HT : TysAt w5 (.slice pa t.kids.length ca) t.kids) (hA : GP vA dA w5) :
    Calls Try.prog 11 #[vA] (w5.alloc (.cells #[.int .i64 t.kind, .string t.name, .slice pa t.kids.length ca] 34))
      fun e w' => (∃ sv l, e = .returned (.agg #[sv]) ∧ SubAt sv l w' ∧ Sb 56 4 (app l) l) ∧ BoxT w5.heap.size t pa ca w' ∧ w'.heap[w.heap.size]? = some (.cells #[.bool false] 4 (0, 0)) ∧ Below w.heap.size w w' := by
  have b1 := below_a w5 (.cells #[.int .i64 t.kind, .string t.name, .slice pa t.kids.length ca] 34)
  have k1 := BoxT.new (t := t) HT
  have lR := (Array.getElem?_eq_some_iff.1 HR).1
  have k2 := (Below.heap_alloc w5 (.cells #[.int .i64 t.kind, .string t.name, .slice pa t.kids.length ca] 34) _ lR).trans HR
  generalize w5.alloc (.cells #[.int .i64 t.kind, .string t.name, .slice pa t.kids.length ca] 34) = V at *
  refine (of_gp (hA.below b1)).mono ?_
  rintro e w' ⟨h1, hb⟩
  exact ⟨h1, k1.below hb, (hb.block _ (Nat.lt_of_lt_of_le lR b1.size)).trans k2, (HB.trans (b1.mono HB.size)).trans (hb.mono (Nat.le_trans HB.size b1.size))⟩
/-- What lies ahead of the loop. -/
def FV (w : World) (bt bs : Nat) (t : T) (pa : Option Addr) (ca : Nat) (sv : Value) (ls : List PR) (V : World) : Prop :=
  (BoxT bt t pa ca V ∧ BoxS bs sv ls V) ∧ V.heap[w.heap.size]? = some (.cells #[.bool false] 4 (0, 0)) ∧ Below w.heap.size w V ∧ V.heap.size = bs + 1
theorem FV.at {w : World} {bt bs : Nat} {t : T} {pa : Option Addr} {ca : Nat} {sv : Value} {ls : List PR} {V X : World} (h : FV w bt bs t pa ca sv ls V) (hb : Below (bs + 1) V X) :
    (BoxT bt t pa ca X ∧ BoxS bs sv ls X) ∧ X.heap[w.heap.size]? = some (.cells #[.bool false] 4 (0, 0)) ∧ Below w.heap.size w X := by
  obtain ⟨⟨h1, h2⟩, h3, h4, h5⟩ := h
  rw [← h5] at hb
  exact ⟨⟨h1.below hb, h2.below hb⟩, (hb.block _ (Array.getElem?_eq_some_iff.1 h3).1).trans h3, h4.trans (hb.mono h4.size)⟩
theorem QI.apart {b M : Nat} {V W : World} {ls : List PR} {s : Value} {pre : List PR} (h : QI b M V ls s pre W) (hs : W.heap.size = M) {k : Nat} {cs : Array Value} {e : TypeId} {fz : Nat × Nat} (hk : W.heap[k]? = some (.cells cs e fz)) (h1 : e ≠ 3) (h2 : e ≠ 9) (h3 : e ≠ 28) :
    k < M ∧ k ≠ b + 1 ∧ k ≠ b + 2 ∧ k ≠ b + 3 := by
  have hlt := (Array.getElem?_eq_some_iff.1 hk).1
  refine ⟨by omega, ?_, ?_, ?_⟩ <;> rintro rfl
  · rw [h.1.1.1] at hk; cases hk; exact h1 rfl
  · rw [h.1.1.2.1] at hk; cases hk; exact h2 rfl
  · rw [h.1.1.2.2] at hk; cases hk; exact h3 rfl
theorem prl_start (w w4 : World) (bt : Nat) (t : T) (pa : Option Addr) (ca : Nat) (sv : Value) (ls : List PR) (HB : Below w.heap.size w w4) (HR : w4.heap[w.heap.size]? = some (.cells #[.bool false] 4 (0, 0))) (H1 : BoxT bt t pa ca w4) (HX : SubAt sv ls w4) :
    ∃ V, FV w bt w4.heap.size t pa ca sv ls V ∧ QI w4.heap.size (w4.heap.size + 5) V ls (.slice none 0 0) [] (((((w4.alloc (.cells #[sv] 39)).alloc (.cells #[.int .i64 0] 3)).alloc (.cells #[.string ⟨#[]⟩] 9)).alloc (.cells #[.slice none 0 0] 28)).alloc (.cells #[sv] 39)) ∧
      (((((w4.alloc (.cells #[sv] 39)).alloc (.cells #[.int .i64 0] 3)).alloc (.cells #[.string ⟨#[]⟩] 9)).alloc (.cells #[.slice none 0 0] 28)).alloc (.cells #[sv] 39)).heap[w4.heap.size + 1 + 1 + 1 + 1]? = some (.cells #[sv] 39 (0, 0)) ∧
      SubAt sv ls (((((w4.alloc (.cells #[sv] 39)).alloc (.cells #[.int .i64 0] 3)).alloc (.cells #[.string ⟨#[]⟩] 9)).alloc (.cells #[.slice none 0 0] 28)).alloc (.cells #[sv] 39)) ∧
      (((((w4.alloc (.cells #[sv] 39)).alloc (.cells #[.int .i64 0] 3)).alloc (.cells #[.string ⟨#[]⟩] 9)).alloc (.cells #[.slice none 0 0] 28)).alloc (.cells #[sv] 39)).heap.size = w4.heap.size + 5 := by
  have b0 := below_a w4 (.cells #[sv] 39)
  have lR := (Array.getElem?_eq_some_iff.1 HR).1
  refine ⟨w4.alloc (.cells #[sv] 39), ⟨⟨H1.below b0, BoxS.new HX⟩, (Below.heap_alloc _ _ _ lR).trans HR, HB.trans (b0.mono HB.size), by simp⟩, ?_⟩
  have hs0 : (w4.alloc (.cells #[sv] 39)).heap.size = w4.heap.size + 1 := by simp
  have hx := HX.below b0
  generalize w4.alloc (.cells #[sv] 39) = V at *
  generalize w4.heap.size = b at *
  have hb4 : Below (b + 1) V ((((V.alloc (.cells #[.int .i64 0] 3)).alloc (.cells #[.string ⟨#[]⟩] 9)).alloc (.cells #[.slice none 0 0] 28)).alloc (.cells #[sv] 39)) :=
    ((((Below.refl _ V).alloc (by omega) _).alloc (by simp; omega) _).alloc (by simp; omega) _).alloc (by simp; omega) _
  refine ⟨⟨⟨⟨?_, ?_, ?_⟩, World.ownsRow_nil _ _ _ _, fun _ => rfl⟩, ⟨(fun _ h => nomatch h), Ahead.nil ls⟩, by simp; omega, hb4⟩, ?_, hx.below (by rw [hs0]; exact hb4), by simp; omega⟩
  · rw [Below.heap_alloc _ _ _ (by simp; omega), Below.heap_alloc _ _ _ (by simp; omega), Below.heap_alloc _ _ _ (by simp; omega), ← hs0]; exact alloc_new V _
  · have := alloc_new (V.alloc (.cells #[.int .i64 0] 3)) (.cells #[.string ⟨#[]⟩] 9)
    simp only [World.size_alloc, hs0] at this
    rw [Below.heap_alloc _ _ _ (by simp; omega), Below.heap_alloc _ _ _ (by simp; omega)]; exact this
  · have := alloc_new ((V.alloc (.cells #[.int .i64 0] 3)).alloc (.cells #[.string ⟨#[]⟩] 9)) (.cells #[.slice none 0 0] 28)
    simp only [World.size_alloc, hs0] at this
    rw [Below.heap_alloc _ _ _ (by simp; omega)]; exact this
  · have := alloc_new (((V.alloc (.cells #[.int .i64 0] 3)).alloc (.cells #[.string ⟨#[]⟩] 9)).alloc (.cells #[.slice none 0 0] 28)) (.cells #[sv] 39)
    simp only [World.size_alloc, hs0] at this
    exact this

set_option maxRecDepth 100000 in
set_option maxHeartbeats 1000000 in
theorem pairs_law (a : Option Addr) (n c : Nat) (w : World) (hl : IntsAt w.heap.size a n w) :
    Calls Try.prog 4 #[.slice a n c] w fun e w' => e = .returned (.bool true) ∧ Below w.heap.size w w' := by
  have HL := Lib.hid hl
  clear hl
  by_cases hb : n ≤ 100
  · have hn : n < 1152921504606846976 := by omega
    have hbI : ¬ ((100 : Int) < (n : Int)) := by omega
    have hbD : decide ((100 : Int) < (n : Int)) = false := by simpa using hbI
    refine (callsIn_wide (n := 3)).1 ?_
    refine callsIn_of_wp_marks Try.func4 rfl trivial ?_ rfl
    simp only [Try.ntmps4, List.size_toArray, List.length_cons, List.length_nil, Nat.reduceAdd, Nat.reduceSub, Array.replicate_succ, Array.replicate_zero, List.push_toArray, List.append_toArray, List.nil_append, List.cons_append]
    have HB0 := Lib.hid (fun o => (Below.refl _ w).alloc (Nat.le_refl _) o)
    gi_wp2_with (refine ⟨trivial, ?_⟩; gi_at_call 7; refine (callsIn_wide.2 (first_any _)).mono ?_; rintro e w1 ⟨rfl, h1⟩; have hR := (h1.block w.heap.size (by simp)).trans (alloc_new w _); have HR := Lib.hid hR; have HB1 := Lib.hid ((HB0.out _).trans (h1.mono (by simp))); have lR := (Array.getElem?_eq_some_iff.1 hR).1; clear h1 hR)
    refine (callsIn_wide (n := 2)).2 ?_ |> fun h => ⟨trivial, h⟩
    refine (pairs_gp _ _ _ _ _ _ _ (seq_new HB1.out HL.out) (by decide) hn).mono ?_
    rintro e w2 ⟨⟨vA, uA, dA, rfl, hA⟩, ⟨k1, hk1, hs1⟩, hf1⟩
    have HB2 := Lib.hid ((HB1.out.alloc HB1.out.size _).trans hf1.1)
    have HA := Lib.hid hA; have HS1 := Lib.hid hs1
    have hR2 := Lib.hid (hf1.2 _ _ ((Below.heap_alloc w1 _ _ lR).trans HR.out) (Nat.ne_of_lt lR))
    clear hA hs1 hf1 HB1 HL HR HB0
    gi_wp2_with (refine ⟨trivial, ?_⟩; gi_at_call 9; refine (callsIn_wide.2 (make_type3 _ _ _ _ _ _ _ HS1.out (by omega) hn)).mono ?_)
    rintro e w3 ⟨⟨t, u, rfl, hg, hu⟩, _, hf4⟩
    obtain ⟨pa, ca, rfl⟩ := hu.shape
    have lR2 := (Array.getElem?_eq_some_iff.1 hR2.out).1
    have hR3 := Lib.hid (hf4.2 _ _ hR2.out (Nat.ne_of_lt lR))
    have HA3 := Lib.hid (HA.out.mk hf4 HS1.out); have HB3 := Lib.hid (HB2.out.trans hf4.1)
    have HT := Lib.hid hu
    have hts : tsize t ≤ 112 := by have := size_text t hg.1; have := hg.2.2; omega
    clear hu hf4 hg HA HS1 HB2 hR2
    simp only [tyV]
    obtain ⟨b1, hb1⟩ : ∃ N, w1.heap.size = N := ⟨_, rfl⟩
    rw [hb1] at lR ⊢
    clear hb1
    gi_wp2_with (refine ⟨trivial, ?_⟩; gi_at_call 11; refine (callsIn_wide.2 (prl_one w w3 t pa ca vA dA HB3.out hR3.out HT.out HA3.out)).mono ?_)
    rintro e w4 ⟨⟨sv, ls, rfl, hsx, hbx⟩, h1, h2, h3⟩
    obtain ⟨xa, xc, rfl⟩ := hsx.shape
    have HX := Lib.hid hsx; have HBX := Lib.hid hbx; have H1 := Lib.hid h1; have HR4 := Lib.hid h2; have HB4 := Lib.hid h3
    clear hsx hbx h1 h2 h3 HA3 HT HB3 hR3
    generalize w3.heap.size = bt at *
    gi_wp2_with (refine ⟨trivial, ?_⟩; gi_at_call 22; refine (callsIn_wide.2 (pairs_call _ _)).mono ?_)
    rintro e W ⟨rfl, hW⟩
    have HS0 := Lib.hid (prl_start w w4 bt t pa ca (.slice xa ls.length xc) ls HB4.out HR4.out H1.out HX.out)
    simp only [World.size_alloc]
    rw [← hW] at HS0
    have hneat := HX.out.1.2
    clear hW HB4 HR4 H1 HX
    generalize hbs : w4.heap.size = bs at *
    obtain ⟨V, hV, hq0, hbx, hsub, hWs⟩ := HS0.out
    clear HS0
    have HV := Lib.hid hV; have HNeat := Lib.hid hneat; have HSub := Lib.hid hsub
    clear hV hneat hsub
    gi_wp2
    obtain ⟨M, hM⟩ : ∃ M, bs + 5 = M := ⟨_, rfl⟩
    rw [hM] at hq0 hWs
    have hsz : SizedAll ls := fun x hx => by have := HBX.out.2.1 x hx; omega
    have hlen : ls.length ≤ 4 := HBX.out.1
    obtain ⟨i0, hi, hz0, hz1, hz2⟩ := info_parts Try.infoPair
    refine range_gen (n := 3) (σ := Value) (by omega) (gf := 37) (lb := #[.pointer (some ⟨bs + 1 + 1 + 1 + 1, 0, none⟩)]) rfl (enters_of Try.func37 (by kernel_rfl) rfl)
      (pairs_told 2 (by omega) ls hsz (by omega) (bs + 1 + 1 + 1 + 1) xa xc (fun k => k < M ∧ k ≠ bs + 1 ∧ k ≠ bs + 2 ∧ k ≠ bs + 3) W hbx (Src.of HSub.out (fun k cs fz hk => ?sa) (fun k cs fz hk => ?sb)))
      (fun k hk => by omega) (Below.refl _ _) (fun x => rfl)
      (fun s pre X => QI bs M V ls s pre X)
      (fun _ _ => False)
      (fun s k => (k = bs + 1 ∨ k = bs + 2 ∨ k = bs + 3) ∨ s.ownBlock = some k)
      ?hI ?hIx ?hT ⟨.slice none 0 0, hq0⟩
      (fun s pre x a' W => ∃ bx, (M ≤ bx ∧ BoxT bx x.t x.a x.c W) ∧ (pre.length < ls.length ∧ x.n = (ls.getD pre.length noP).n ∧ x.t = (ls.getD pre.length noP).t) ∧ a' = { tmps := #[.slice a n c, undef, .pointer (some ⟨w.heap.size, 0, none⟩), .bool true, .pointer (some ⟨b1, 0, none⟩), vA, uA, .pointer (some ⟨bt, 0, none⟩), .pointer (some ⟨bs, 0, none⟩), .pointer (some ⟨bs + 1, 0, none⟩), .pointer (some ⟨bs + 1 + 1, 0, none⟩), .pointer (some ⟨bs + 1 + 1 + 1, 0, none⟩), .string x.n, .pointer (some ⟨bx, 0, none⟩), undef, undef, undef, .bool true, .bool true, .bool false, .slice a n c, .int .i64 (n : Int), .bool false, undef, .slice a n c, .agg #[.slice a n c, .int .i64 0], .pointer (some ⟨b1, 0, none⟩), .tuple #[vA, uA], .pointer (some ⟨b1, 0, none⟩), .tuple #[vA, uA], vA, uA, .pointer (some ⟨b1, 0, none⟩), .agg #[.int .i64 t.kind, .string t.name, .slice pa t.kids.length ca], vA, .agg #[.slice xa ls.length xc], .agg #[.slice xa ls.length xc], .func (.func 37) #[] #[.pointer (some ⟨bs + 1 + 1 + 1 + 1, 0, none⟩)], .string x.n, .agg #[.int .i64 x.t.kind, .string x.t.name, .slice x.a x.t.kids.length x.c], undef, undef, undef, undef, undef, undef, undef, undef, undef, undef, undef, undef, undef, undef, undef, undef, undef, undef, undef, undef, undef, undef, undef, undef, undef, undef, undef, undef, undef, undef, undef, undef, undef, undef, undef, undef, undef, undef, undef, undef, undef, undef, undef, undef, undef, undef, undef, undef, undef, undef, undef, undef, undef, undef, undef, undef, undef, undef, undef, undef, undef, undef, undef, undef, undef, undef, undef, undef, undef, undef, undef, undef], defers := [] })
      ?hAx .ret ?assign ?body ?done ?stop
    case sa => exact hq0.apart hWs hk (by decide) (by decide) (by decide)
    case sb => exact hq0.apart hWs hk (by decide) (by decide) (by decide)
    case hI => exact fun s pre X Y row h hgr hrr => h.kept hgr (fun r e => (hrr r e).2) (ownFrom_below (β := Unit) (Nat.le_of_eq HV.out.2.2.2.symm) (by omega) () X Y row h.2.2.2 hgr hrr)
    case hIx => exact fun _ _ _ _ h => h.elim
    case hT =>
      rintro s pre X k h (⟨rfl | rfl | rfl⟩ | hk)
      · exact ⟨(Array.getElem?_eq_some_iff.1 h.1.1.1).1, fun hk => hk.2.1 rfl⟩
      · exact ⟨(Array.getElem?_eq_some_iff.1 h.1.1.2.1).1, fun hk => hk.2.2.1 rfl⟩
      · exact ⟨(Array.getElem?_eq_some_iff.1 h.1.1.2.2).1, fun hk => hk.2.2.2 rfl⟩
      · have := h.1.2.1.lt k hk; exact ⟨this.2, fun hk => by omega⟩
    case hAx => exact fun s pre x a' _ X Y row ⟨bx, ⟨h1, h2⟩, h3⟩ hgr hrr => ⟨bx, ⟨h1, block_kept h2.1 hgr (fun r e => (hrr r e).2), h2.2.keep fun _ _ _ hk => block_kept hk hgr (fun r e => (hrr r e).2)⟩, h3⟩
    case assign =>
      rintro l s pre x X0 X C hi0 hX hi ⟨hx1, hx2⟩ hC
      have HX1 := Lib.hid hx1.tys; have HI := Lib.hid hi; have HX2 := Lib.hid hx2
      dsimp only [encQ]
      clear hx1 hx2 hi0 hX hi
      gi_wp2
      exact hC _ _ ((KeepsOthers.alloc X _).from _) ((Below.refl _ X).alloc (Nat.le_refl _) _) ⟨X.heap.size, ⟨HI.out.2.2.1, BoxT.new HX1.out⟩, HX2.out, rfl⟩
    case body =>
      rintro l s pre x a' X hI hlen2 ⟨bx, ⟨hbx1, hbx2⟩, hpre, rfl⟩
      have hlk : lk x.n ls = some (ls.getD pre.length noP) := by rw [hpre.2.1]; exact next_lk HNeat.out hpre.1
      have hgx : tsize (ls.getD pre.length noP).t ≤ 1000000000 := hsz _ (getD_mem hpre.1)
      have hG := fun (Y : World) (k : SubAt (.slice xa ls.length xc) ls Y) => get_some k (by omega) hlk hgx
      have hown := next_own HNeat.out hpre.1
      rw [← hpre.2.2] at hG hown hgx
      rw [← hpre.2.1] at hown
      have HG := Lib.hid hG
      have HP := Lib.hid hpre
      clear hpre hlk hG hq0 hbx
      obtain ⟨sa, sc, rfl⟩ := row_slice hI.1.2.1
      have HI := Lib.hid hI; have HB := Lib.hid hbx2
      have hc1 := (HV.out.at hI.2.2.2)
      have c0 := hc1.1.2.cell
      have n0 : X.cell? ⟨bs + 1, 0, none⟩ = some (.int .i64 (pre.length : Int)) := (by rw [Lib.cell_of_heap hI.1.1.1]; rfl)
      have l0 : X.cell? ⟨bs + 1 + 1, 0, none⟩ = some (.string (lastN pre)) := (by rw [show bs + 1 + 1 = bs + 2 from rfl, Lib.cell_of_heap hI.1.1.2.1]; rfl)
      have HS := Lib.hid hc1.1.2.2
      have hnn4 : pre.length ≤ 4 := by have := hI.2.1.2.1; omega
      have hless := fun h0 => hI.2.1.2.less HNeat.out h0 ⟨HP.out.1, HP.out.2.1⟩
      clear hI hbx2 hc1
      by_cases hp : pre.length = 0
      · have hpI : ¬ ((0 : Int) < (pre.length : Int)) := by omega
        clear hless hp
        by_cases hk : x.t.kind = 1
        · have hkB : (x.t.kind == 1) = true := by simpa using hk
          have hnm : (x.t.name.toList == x.n.toList) = false := by rw [bytes_beq]; exact eqB_false (kind_name hk hown)
          clear hk hown
          gi_wp2_with (first
            | (refine ⟨trivial, ?_⟩; gi_at_call 12; refine (callsIn_wide.2 (HG.out _ HS.out)).mono ?_; rintro e Y1 ⟨⟨za, zc, rfl, hz⟩, hb1⟩; clear n0 l0 c0; have HZ := Lib.hid hz; have HI1 := Lib.hid (HI.out.below hb1 (by omega)); have HB1 := Lib.hid (HB.out.below hb1); have HQ1 := Lib.hid hb1; clear hz hb1; obtain ⟨x0, x1, x2⟩ := HB1.out.cells; have n0 : Y1.cell? ⟨bs + 1, 0, none⟩ = some (.int .i64 (pre.length : Int)) := (by rw [Lib.cell_of_heap HI1.out.1.1.1]; rfl); have l0 : Y1.cell? ⟨bs + 1 + 1, 0, none⟩ = some (.string (lastN pre)) := (by rw [show bs + 1 + 1 = bs + 2 from rfl, Lib.cell_of_heap HI1.out.1.1.2.1]; rfl); have q0 : Y1.cell? ⟨bs + 1 + 1 + 1, 0, none⟩ = some (.slice sa pre.length sc) := (by rw [show bs + 1 + 1 + 1 = bs + 3 from rfl, Lib.cell_of_heap HI1.out.1.1.2.2]; rfl); have fn := Lib.frozen_of_heap HI1.out.1.1.1 0; have fl : Y1.frozen? ⟨bs + 1 + 1, 0, none⟩ = false := Lib.frozen_of_heap HI1.out.1.1.2.1 0; have fq : Y1.frozen? ⟨bs + 1 + 1 + 1, 0, none⟩ = false := Lib.frozen_of_heap HI1.out.1.1.2.2 0; have ln : bs + 1 < Y1.heap.size := (Array.getElem?_eq_some_iff.1 HI1.out.1.1.1).1; have ll : bs + 1 + 1 < Y1.heap.size := (Array.getElem?_eq_some_iff.1 HI1.out.1.1.2.1).1; have lq : bs + 1 + 1 + 1 < Y1.heap.size := (Array.getElem?_eq_some_iff.1 HI1.out.1.1.2.2).1; have lx := HB1.out.lt)
            | (refine ⟨trivial, ?_⟩; gi_at_call 15; refine (callsIn_wide.2 (same_ret hgx (HZ.out.keep (keepT_alloc _ _)) (HB1.out.2.keep (keepT_alloc _ _)))).mono ?_; rintro e Y2 ⟨rfl, hb2⟩; clear x0 x1 x2 n0 l0 q0 fn fl fq ln ll lq lx; have hb12 := (below_a Y1 _).trans (hb2.mono (by simp)); have HI2 := Lib.hid (HI1.out.below hb12 (by omega)); have HB2 := Lib.hid (HB1.out.below hb12); have HQ2 := Lib.hid (HQ1.out.trans (hb12.mono HQ1.out.size)); clear hb2 hb12; obtain ⟨x0, x1, x2⟩ := HB2.out.cells; have n0 : Y2.cell? ⟨bs + 1, 0, none⟩ = some (.int .i64 (pre.length : Int)) := (by rw [Lib.cell_of_heap HI2.out.1.1.1]; rfl); have l0 : Y2.cell? ⟨bs + 1 + 1, 0, none⟩ = some (.string (lastN pre)) := (by rw [show bs + 1 + 1 = bs + 2 from rfl, Lib.cell_of_heap HI2.out.1.1.2.1]; rfl); have q0 : Y2.cell? ⟨bs + 1 + 1 + 1, 0, none⟩ = some (.slice sa pre.length sc) := (by rw [show bs + 1 + 1 + 1 = bs + 3 from rfl, Lib.cell_of_heap HI2.out.1.1.2.2]; rfl); have fn := Lib.frozen_of_heap HI2.out.1.1.1 0; have fl : Y2.frozen? ⟨bs + 1 + 1, 0, none⟩ = false := Lib.frozen_of_heap HI2.out.1.1.2.1 0; have fq : Y2.frozen? ⟨bs + 1 + 1 + 1, 0, none⟩ = false := Lib.frozen_of_heap HI2.out.1.1.2.2 0; have ln : bs + 1 < Y2.heap.size := (Array.getElem?_eq_some_iff.1 HI2.out.1.1.1).1; have ll : bs + 1 + 1 < Y2.heap.size := (Array.getElem?_eq_some_iff.1 HI2.out.1.1.2.1).1; have lq : bs + 1 + 1 + 1 < Y2.heap.size := (Array.getElem?_eq_some_iff.1 HI2.out.1.1.2.2).1; have lx := HB2.out.lt)
            | (gi_at_builtin; refine wpListIn_append_own _ rfl _ _ 28 rfl M 58 i0 (.agg zeroP) 4 64 Try.underlying28 hi hz0 hz1 hz2 rfl (by decide) _ _ _ rfl ((HI2.out.tick x).2.2.2.alloc _) ⟨Y2.heap.size, 0, none⟩ 1 1 [.string x.n, .int .i64 x.t.kind, .string x.t.name, .slice x.a x.t.kids.length x.c] rfl rfl ?cn (by simp [Value.oneCell']) (by unfold maxLen; omega) (by omega) (by simp; have := HI2.out.2.2.1; omega) ?_; (case cn => exact tick_new Y2 bs x pre.length); intro v' w1 hown' hgrow _; obtain ⟨ga, gc, rfl⟩ := row_slice hown'; have hw3 := HI2.out.app_cell (by omega) hgrow; have HZ3 := Lib.hid (HI2.out.app (by omega) HB2.out.2 HP.out hown' hgrow); clear x0 x1 x2 n0 l0 q0 fn fl fq ln ll lq lx; have q0 : w1.cell? ⟨bs + 1 + 1 + 1, 0, none⟩ = some (.slice sa pre.length sc) := (by rw [show bs + 1 + 1 + 1 = bs + 3 from rfl, Lib.cell_of_heap hw3]; rfl); have fq : w1.frozen? ⟨bs + 1 + 1 + 1, 0, none⟩ = false := Lib.frozen_of_heap hw3 0; have lq : bs + 1 + 1 + 1 < w1.heap.size := (Array.getElem?_eq_some_iff.1 hw3).1; clear hown' hgrow hw3)
            | (refine ⟨trivial, ?_⟩))
          exact ⟨((below_others HQ2.out).trans HZ3.out.2.1).from _, fun k hk hkX => (HZ3.out.2.2 k hk (Nat.lt_of_lt_of_le hkX HQ2.out.size)).trans (HQ2.out.block k hkX), _, HZ3.out.1⟩
        · have hkB : (x.t.kind == 1) = false := by simpa using hk
          clear hk hown
          gi_wp2_with (first
            | (refine ⟨trivial, ?_⟩; gi_at_call 12; refine (callsIn_wide.2 (HG.out _ HS.out)).mono ?_; rintro e Y1 ⟨⟨za, zc, rfl, hz⟩, hb1⟩; clear n0 l0 c0; have HZ := Lib.hid hz; have HI1 := Lib.hid (HI.out.below hb1 (by omega)); have HB1 := Lib.hid (HB.out.below hb1); have HQ1 := Lib.hid hb1; clear hz hb1; obtain ⟨x0, x1, x2⟩ := HB1.out.cells; have n0 : Y1.cell? ⟨bs + 1, 0, none⟩ = some (.int .i64 (pre.length : Int)) := (by rw [Lib.cell_of_heap HI1.out.1.1.1]; rfl); have l0 : Y1.cell? ⟨bs + 1 + 1, 0, none⟩ = some (.string (lastN pre)) := (by rw [show bs + 1 + 1 = bs + 2 from rfl, Lib.cell_of_heap HI1.out.1.1.2.1]; rfl); have q0 : Y1.cell? ⟨bs + 1 + 1 + 1, 0, none⟩ = some (.slice sa pre.length sc) := (by rw [show bs + 1 + 1 + 1 = bs + 3 from rfl, Lib.cell_of_heap HI1.out.1.1.2.2]; rfl); have fn := Lib.frozen_of_heap HI1.out.1.1.1 0; have fl : Y1.frozen? ⟨bs + 1 + 1, 0, none⟩ = false := Lib.frozen_of_heap HI1.out.1.1.2.1 0; have fq : Y1.frozen? ⟨bs + 1 + 1 + 1, 0, none⟩ = false := Lib.frozen_of_heap HI1.out.1.1.2.2 0; have ln : bs + 1 < Y1.heap.size := (Array.getElem?_eq_some_iff.1 HI1.out.1.1.1).1; have ll : bs + 1 + 1 < Y1.heap.size := (Array.getElem?_eq_some_iff.1 HI1.out.1.1.2.1).1; have lq : bs + 1 + 1 + 1 < Y1.heap.size := (Array.getElem?_eq_some_iff.1 HI1.out.1.1.2.2).1; have lx := HB1.out.lt)
            | (refine ⟨trivial, ?_⟩; gi_at_call 15; refine (callsIn_wide.2 (same_ret hgx (HZ.out.keep (keepT_alloc _ _)) (HB1.out.2.keep (keepT_alloc _ _)))).mono ?_; rintro e Y2 ⟨rfl, hb2⟩; clear x0 x1 x2 n0 l0 q0 fn fl fq ln ll lq lx; have hb12 := (below_a Y1 _).trans (hb2.mono (by simp)); have HI2 := Lib.hid (HI1.out.below hb12 (by omega)); have HB2 := Lib.hid (HB1.out.below hb12); have HQ2 := Lib.hid (HQ1.out.trans (hb12.mono HQ1.out.size)); clear hb2 hb12; obtain ⟨x0, x1, x2⟩ := HB2.out.cells; have n0 : Y2.cell? ⟨bs + 1, 0, none⟩ = some (.int .i64 (pre.length : Int)) := (by rw [Lib.cell_of_heap HI2.out.1.1.1]; rfl); have l0 : Y2.cell? ⟨bs + 1 + 1, 0, none⟩ = some (.string (lastN pre)) := (by rw [show bs + 1 + 1 = bs + 2 from rfl, Lib.cell_of_heap HI2.out.1.1.2.1]; rfl); have q0 : Y2.cell? ⟨bs + 1 + 1 + 1, 0, none⟩ = some (.slice sa pre.length sc) := (by rw [show bs + 1 + 1 + 1 = bs + 3 from rfl, Lib.cell_of_heap HI2.out.1.1.2.2]; rfl); have fn := Lib.frozen_of_heap HI2.out.1.1.1 0; have fl : Y2.frozen? ⟨bs + 1 + 1, 0, none⟩ = false := Lib.frozen_of_heap HI2.out.1.1.2.1 0; have fq : Y2.frozen? ⟨bs + 1 + 1 + 1, 0, none⟩ = false := Lib.frozen_of_heap HI2.out.1.1.2.2 0; have ln : bs + 1 < Y2.heap.size := (Array.getElem?_eq_some_iff.1 HI2.out.1.1.1).1; have ll : bs + 1 + 1 < Y2.heap.size := (Array.getElem?_eq_some_iff.1 HI2.out.1.1.2.1).1; have lq : bs + 1 + 1 + 1 < Y2.heap.size := (Array.getElem?_eq_some_iff.1 HI2.out.1.1.2.2).1; have lx := HB2.out.lt)
            | (gi_at_builtin; refine wpListIn_append_own _ rfl _ _ 28 rfl M 58 i0 (.agg zeroP) 4 64 Try.underlying28 hi hz0 hz1 hz2 rfl (by decide) _ _ _ rfl ((HI2.out.tick x).2.2.2.alloc _) ⟨Y2.heap.size, 0, none⟩ 1 1 [.string x.n, .int .i64 x.t.kind, .string x.t.name, .slice x.a x.t.kids.length x.c] rfl rfl ?cn (by simp [Value.oneCell']) (by unfold maxLen; omega) (by omega) (by simp; have := HI2.out.2.2.1; omega) ?_; (case cn => exact tick_new Y2 bs x pre.length); intro v' w1 hown' hgrow _; obtain ⟨ga, gc, rfl⟩ := row_slice hown'; have hw3 := HI2.out.app_cell (by omega) hgrow; have HZ3 := Lib.hid (HI2.out.app (by omega) HB2.out.2 HP.out hown' hgrow); clear x0 x1 x2 n0 l0 q0 fn fl fq ln ll lq lx; have q0 : w1.cell? ⟨bs + 1 + 1 + 1, 0, none⟩ = some (.slice sa pre.length sc) := (by rw [show bs + 1 + 1 + 1 = bs + 3 from rfl, Lib.cell_of_heap hw3]; rfl); have fq : w1.frozen? ⟨bs + 1 + 1 + 1, 0, none⟩ = false := Lib.frozen_of_heap hw3 0; have lq : bs + 1 + 1 + 1 < w1.heap.size := (Array.getElem?_eq_some_iff.1 hw3).1; clear hown' hgrow hw3)
            | (refine ⟨trivial, ?_⟩))
          exact ⟨((below_others HQ2.out).trans HZ3.out.2.1).from _, fun k hk hkX => (HZ3.out.2.2 k hk (Nat.lt_of_lt_of_le hkX HQ2.out.size)).trans (HQ2.out.block k hkX), _, HZ3.out.1⟩
      · have hpI : ((0 : Int) < (pre.length : Int)) := by omega
        obtain ⟨hls1, hls3⟩ := hless (fun e => hp (by rw [e]; rfl))
        have hls2 : (x.n.toList == (lastN pre).toList) = false := by simpa using hls3
        clear hless hp hls3
        by_cases hk : x.t.kind = 1
        · have hkB : (x.t.kind == 1) = true := by simpa using hk
          have hnm : (x.t.name.toList == x.n.toList) = false := by rw [bytes_beq]; exact eqB_false (kind_name hk hown)
          clear hk hown
          gi_wp2_with (first
            | (refine ⟨trivial, ?_⟩; gi_at_call 12; refine (callsIn_wide.2 (HG.out _ HS.out)).mono ?_; rintro e Y1 ⟨⟨za, zc, rfl, hz⟩, hb1⟩; clear n0 l0 c0; have HZ := Lib.hid hz; have HI1 := Lib.hid (HI.out.below hb1 (by omega)); have HB1 := Lib.hid (HB.out.below hb1); have HQ1 := Lib.hid hb1; clear hz hb1; obtain ⟨x0, x1, x2⟩ := HB1.out.cells; have n0 : Y1.cell? ⟨bs + 1, 0, none⟩ = some (.int .i64 (pre.length : Int)) := (by rw [Lib.cell_of_heap HI1.out.1.1.1]; rfl); have l0 : Y1.cell? ⟨bs + 1 + 1, 0, none⟩ = some (.string (lastN pre)) := (by rw [show bs + 1 + 1 = bs + 2 from rfl, Lib.cell_of_heap HI1.out.1.1.2.1]; rfl); have q0 : Y1.cell? ⟨bs + 1 + 1 + 1, 0, none⟩ = some (.slice sa pre.length sc) := (by rw [show bs + 1 + 1 + 1 = bs + 3 from rfl, Lib.cell_of_heap HI1.out.1.1.2.2]; rfl); have fn := Lib.frozen_of_heap HI1.out.1.1.1 0; have fl : Y1.frozen? ⟨bs + 1 + 1, 0, none⟩ = false := Lib.frozen_of_heap HI1.out.1.1.2.1 0; have fq : Y1.frozen? ⟨bs + 1 + 1 + 1, 0, none⟩ = false := Lib.frozen_of_heap HI1.out.1.1.2.2 0; have ln : bs + 1 < Y1.heap.size := (Array.getElem?_eq_some_iff.1 HI1.out.1.1.1).1; have ll : bs + 1 + 1 < Y1.heap.size := (Array.getElem?_eq_some_iff.1 HI1.out.1.1.2.1).1; have lq : bs + 1 + 1 + 1 < Y1.heap.size := (Array.getElem?_eq_some_iff.1 HI1.out.1.1.2.2).1; have lx := HB1.out.lt)
            | (refine ⟨trivial, ?_⟩; gi_at_call 15; refine (callsIn_wide.2 (same_ret hgx (HZ.out.keep (keepT_alloc _ _)) (HB1.out.2.keep (keepT_alloc _ _)))).mono ?_; rintro e Y2 ⟨rfl, hb2⟩; clear x0 x1 x2 n0 l0 q0 fn fl fq ln ll lq lx; have hb12 := (below_a Y1 _).trans (hb2.mono (by simp)); have HI2 := Lib.hid (HI1.out.below hb12 (by omega)); have HB2 := Lib.hid (HB1.out.below hb12); have HQ2 := Lib.hid (HQ1.out.trans (hb12.mono HQ1.out.size)); clear hb2 hb12; obtain ⟨x0, x1, x2⟩ := HB2.out.cells; have n0 : Y2.cell? ⟨bs + 1, 0, none⟩ = some (.int .i64 (pre.length : Int)) := (by rw [Lib.cell_of_heap HI2.out.1.1.1]; rfl); have l0 : Y2.cell? ⟨bs + 1 + 1, 0, none⟩ = some (.string (lastN pre)) := (by rw [show bs + 1 + 1 = bs + 2 from rfl, Lib.cell_of_heap HI2.out.1.1.2.1]; rfl); have q0 : Y2.cell? ⟨bs + 1 + 1 + 1, 0, none⟩ = some (.slice sa pre.length sc) := (by rw [show bs + 1 + 1 + 1 = bs + 3 from rfl, Lib.cell_of_heap HI2.out.1.1.2.2]; rfl); have fn := Lib.frozen_of_heap HI2.out.1.1.1 0; have fl : Y2.frozen? ⟨bs + 1 + 1, 0, none⟩ = false := Lib.frozen_of_heap HI2.out.1.1.2.1 0; have fq : Y2.frozen? ⟨bs + 1 + 1 + 1, 0, none⟩ = false := Lib.frozen_of_heap HI2.out.1.1.2.2 0; have ln : bs + 1 < Y2.heap.size := (Array.getElem?_eq_some_iff.1 HI2.out.1.1.1).1; have ll : bs + 1 + 1 < Y2.heap.size := (Array.getElem?_eq_some_iff.1 HI2.out.1.1.2.1).1; have lq : bs + 1 + 1 + 1 < Y2.heap.size := (Array.getElem?_eq_some_iff.1 HI2.out.1.1.2.2).1; have lx := HB2.out.lt)
            | (gi_at_builtin; refine wpListIn_append_own _ rfl _ _ 28 rfl M 58 i0 (.agg zeroP) 4 64 Try.underlying28 hi hz0 hz1 hz2 rfl (by decide) _ _ _ rfl ((HI2.out.tick x).2.2.2.alloc _) ⟨Y2.heap.size, 0, none⟩ 1 1 [.string x.n, .int .i64 x.t.kind, .string x.t.name, .slice x.a x.t.kids.length x.c] rfl rfl ?cn (by simp [Value.oneCell']) (by unfold maxLen; omega) (by omega) (by simp; have := HI2.out.2.2.1; omega) ?_; (case cn => exact tick_new Y2 bs x pre.length); intro v' w1 hown' hgrow _; obtain ⟨ga, gc, rfl⟩ := row_slice hown'; have hw3 := HI2.out.app_cell (by omega) hgrow; have HZ3 := Lib.hid (HI2.out.app (by omega) HB2.out.2 HP.out hown' hgrow); clear x0 x1 x2 n0 l0 q0 fn fl fq ln ll lq lx; have q0 : w1.cell? ⟨bs + 1 + 1 + 1, 0, none⟩ = some (.slice sa pre.length sc) := (by rw [show bs + 1 + 1 + 1 = bs + 3 from rfl, Lib.cell_of_heap hw3]; rfl); have fq : w1.frozen? ⟨bs + 1 + 1 + 1, 0, none⟩ = false := Lib.frozen_of_heap hw3 0; have lq : bs + 1 + 1 + 1 < w1.heap.size := (Array.getElem?_eq_some_iff.1 hw3).1; clear hown' hgrow hw3)
            | (refine ⟨trivial, ?_⟩))
          exact ⟨((below_others HQ2.out).trans HZ3.out.2.1).from _, fun k hk hkX => (HZ3.out.2.2 k hk (Nat.lt_of_lt_of_le hkX HQ2.out.size)).trans (HQ2.out.block k hkX), _, HZ3.out.1⟩
        · have hkB : (x.t.kind == 1) = false := by simpa using hk
          clear hk hown
          gi_wp2_with (first
            | (refine ⟨trivial, ?_⟩; gi_at_call 12; refine (callsIn_wide.2 (HG.out _ HS.out)).mono ?_; rintro e Y1 ⟨⟨za, zc, rfl, hz⟩, hb1⟩; clear n0 l0 c0; have HZ := Lib.hid hz; have HI1 := Lib.hid (HI.out.below hb1 (by omega)); have HB1 := Lib.hid (HB.out.below hb1); have HQ1 := Lib.hid hb1; clear hz hb1; obtain ⟨x0, x1, x2⟩ := HB1.out.cells; have n0 : Y1.cell? ⟨bs + 1, 0, none⟩ = some (.int .i64 (pre.length : Int)) := (by rw [Lib.cell_of_heap HI1.out.1.1.1]; rfl); have l0 : Y1.cell? ⟨bs + 1 + 1, 0, none⟩ = some (.string (lastN pre)) := (by rw [show bs + 1 + 1 = bs + 2 from rfl, Lib.cell_of_heap HI1.out.1.1.2.1]; rfl); have q0 : Y1.cell? ⟨bs + 1 + 1 + 1, 0, none⟩ = some (.slice sa pre.length sc) := (by rw [show bs + 1 + 1 + 1 = bs + 3 from rfl, Lib.cell_of_heap HI1.out.1.1.2.2]; rfl); have fn := Lib.frozen_of_heap HI1.out.1.1.1 0; have fl : Y1.frozen? ⟨bs + 1 + 1, 0, none⟩ = false := Lib.frozen_of_heap HI1.out.1.1.2.1 0; have fq : Y1.frozen? ⟨bs + 1 + 1 + 1, 0, none⟩ = false := Lib.frozen_of_heap HI1.out.1.1.2.2 0; have ln : bs + 1 < Y1.heap.size := (Array.getElem?_eq_some_iff.1 HI1.out.1.1.1).1; have ll : bs + 1 + 1 < Y1.heap.size := (Array.getElem?_eq_some_iff.1 HI1.out.1.1.2.1).1; have lq : bs + 1 + 1 + 1 < Y1.heap.size := (Array.getElem?_eq_some_iff.1 HI1.out.1.1.2.2).1; have lx := HB1.out.lt)
            | (refine ⟨trivial, ?_⟩; gi_at_call 15; refine (callsIn_wide.2 (same_ret hgx (HZ.out.keep (keepT_alloc _ _)) (HB1.out.2.keep (keepT_alloc _ _)))).mono ?_; rintro e Y2 ⟨rfl, hb2⟩; clear x0 x1 x2 n0 l0 q0 fn fl fq ln ll lq lx; have hb12 := (below_a Y1 _).trans (hb2.mono (by simp)); have HI2 := Lib.hid (HI1.out.below hb12 (by omega)); have HB2 := Lib.hid (HB1.out.below hb12); have HQ2 := Lib.hid (HQ1.out.trans (hb12.mono HQ1.out.size)); clear hb2 hb12; obtain ⟨x0, x1, x2⟩ := HB2.out.cells; have n0 : Y2.cell? ⟨bs + 1, 0, none⟩ = some (.int .i64 (pre.length : Int)) := (by rw [Lib.cell_of_heap HI2.out.1.1.1]; rfl); have l0 : Y2.cell? ⟨bs + 1 + 1, 0, none⟩ = some (.string (lastN pre)) := (by rw [show bs + 1 + 1 = bs + 2 from rfl, Lib.cell_of_heap HI2.out.1.1.2.1]; rfl); have q0 : Y2.cell? ⟨bs + 1 + 1 + 1, 0, none⟩ = some (.slice sa pre.length sc) := (by rw [show bs + 1 + 1 + 1 = bs + 3 from rfl, Lib.cell_of_heap HI2.out.1.1.2.2]; rfl); have fn := Lib.frozen_of_heap HI2.out.1.1.1 0; have fl : Y2.frozen? ⟨bs + 1 + 1, 0, none⟩ = false := Lib.frozen_of_heap HI2.out.1.1.2.1 0; have fq : Y2.frozen? ⟨bs + 1 + 1 + 1, 0, none⟩ = false := Lib.frozen_of_heap HI2.out.1.1.2.2 0; have ln : bs + 1 < Y2.heap.size := (Array.getElem?_eq_some_iff.1 HI2.out.1.1.1).1; have ll : bs + 1 + 1 < Y2.heap.size := (Array.getElem?_eq_some_iff.1 HI2.out.1.1.2.1).1; have lq : bs + 1 + 1 + 1 < Y2.heap.size := (Array.getElem?_eq_some_iff.1 HI2.out.1.1.2.2).1; have lx := HB2.out.lt)
            | (gi_at_builtin; refine wpListIn_append_own _ rfl _ _ 28 rfl M 58 i0 (.agg zeroP) 4 64 Try.underlying28 hi hz0 hz1 hz2 rfl (by decide) _ _ _ rfl ((HI2.out.tick x).2.2.2.alloc _) ⟨Y2.heap.size, 0, none⟩ 1 1 [.string x.n, .int .i64 x.t.kind, .string x.t.name, .slice x.a x.t.kids.length x.c] rfl rfl ?cn (by simp [Value.oneCell']) (by unfold maxLen; omega) (by omega) (by simp; have := HI2.out.2.2.1; omega) ?_; (case cn => exact tick_new Y2 bs x pre.length); intro v' w1 hown' hgrow _; obtain ⟨ga, gc, rfl⟩ := row_slice hown'; have hw3 := HI2.out.app_cell (by omega) hgrow; have HZ3 := Lib.hid (HI2.out.app (by omega) HB2.out.2 HP.out hown' hgrow); clear x0 x1 x2 n0 l0 q0 fn fl fq ln ll lq lx; have q0 : w1.cell? ⟨bs + 1 + 1 + 1, 0, none⟩ = some (.slice sa pre.length sc) := (by rw [show bs + 1 + 1 + 1 = bs + 3 from rfl, Lib.cell_of_heap hw3]; rfl); have fq : w1.frozen? ⟨bs + 1 + 1 + 1, 0, none⟩ = false := Lib.frozen_of_heap hw3 0; have lq : bs + 1 + 1 + 1 < w1.heap.size := (Array.getElem?_eq_some_iff.1 hw3).1; clear hown' hgrow hw3)
            | (refine ⟨trivial, ?_⟩))
          exact ⟨((below_others HQ2.out).trans HZ3.out.2.1).from _, fun k hk hkX => (HZ3.out.2.2 k hk (Nat.lt_of_lt_of_le hkX HQ2.out.size)).trans (HQ2.out.block k hkX), _, HZ3.out.1⟩
    case done =>
      rintro D s xs W' hD hxs hI hK
      have hcopy := hI.2.1.2.copy hxs
      have hgv := given_of_row hI.1.2.1 hI.1.2.2
      have hgp : GP s xs W' := ⟨⟨hgv, hI.2.1.1⟩, by omega, fun y hy => by obtain ⟨z, hz, _, e⟩ := hcopy.mem y hy; rw [e]; exact HBX.out.2.1 z hz⟩
      obtain ⟨qa, qc, rfl⟩ := row_slice hI.1.2.1
      have hfv := HV.out.at hI.2.2.2
      have h1 := hI.1.1.1
      have h3 := hI.1.1.2.2
      rw [hxs] at hgp h1 h3
      have hep : EP w bt bs W'.heap.size D t pa ca xa xc ls qa qc xs ((W'.alloc (.cells #[nilV] 39)).drew) := by
        have b1 := below_a W' (.cells #[nilV] 39)
        have st : ∀ {k : Nat} {o : Obj}, W'.heap[k]? = some o → (W'.alloc (.cells #[nilV] 39)).heap[k]? = some o := fun hk => (b1.block _ (Array.getElem?_eq_some_iff.1 hk).1).trans hk
        exact EP.below ⟨⟨⟨hfv.1.1.below b1, hfv.1.2.below b1⟩, BoxS.new (sub_nil _ _ _ (fun _ => rfl))⟩, ⟨st h1, st h3⟩, hgp.below b1, ⟨st hfv.2.1, st hK⟩, hfv.2.2.trans (b1.mono hfv.2.2.size)⟩ (below_d _)
      have HEP := Lib.hid hep; have HCopy := Lib.hid hcopy
      have e1 := size_le ls 56 (by decide) HBX.out.2.1 t
      have s1 : tsize (app ls t) ≤ 1000000000 := by omega
      have s0 : tsize t ≤ 1000000000 := by omega
      clear hep hcopy hgv hgp hfv h1 h3 hI hK hq0 hbx hxs HSub HNeat
      gi_wp2
      refine wpIn_wide.2 ?_
      refine prs_here (w := w) (bt := bt) (bs := bs) (bn := W'.heap.size) (D := D) (t := t) (pa := pa) (xa := xa) (qa := qa) (ca := ca) (xc := xc) (qc := qc) (ls := ls) (q := xs)
        (fun V h => len_ret _ _ _ _)
        (fun V h => of_again h.2.2.1 HCopy.out)
        (fun V h _ _ k => app_ret k.1 k.2 (by decide) (by decide) s0 rfl h.1.1.1.2)
        (fun V h => app_ret h.1.1.2.2 HBX.out (by decide) (by decide) s0 rfl h.1.1.1.2)
        (fun V h _ _ k _ _ k' => same_ret s1 k k')
        (fun V h => app_ret h.1.2.2 sb_nil (by decide) (by decide) s0 rfl h.1.1.1.2)
        (fun V h _ _ k => same_ret s0 k h.1.1.1.2)
        (fun V h => len_ret none 0 0 V)
        _ (by kernel_rfl) (by kernel_rfl) (by kernel_rfl) (by kernel_rfl) (by kernel_rfl) (by kernel_rfl) (by kernel_rfl) (by kernel_rfl) (by kernel_rfl) HEP.out ?_
      intro x V2 hV2 hx
      simp only [prsFr, hx]
      simp only [Array.getD_eq_getD_getElem?, List.getElem?_toArray, List.getElem?_cons_succ, List.getElem?_cons_zero, Option.getD_some]
      gi_wp2
      have hR2 := hV2.2.2.2.1.1
      have hD2 := hV2.2.2.2.1.2
      have hD1 : D ≠ w.heap.size := by rintro rfl; rw [hR2] at hD2; cases hD2
      have hDw : w.heap.size ≤ D := by have h1 := HV.out.2.2.1.size; have h2 := HV.out.2.2.2; omega
      have zs := blk_set (o := 0) hR2 (.bool true)
      have zb := hV2.2.2.2.2.setCell (p := ⟨w.heap.size, 0, none⟩) (Nat.le_refl _) (.bool true)
      have zd := (Below.heap_setCell V2 ⟨w.heap.size, 0, none⟩ (.bool true) D hD1).trans hD2
      obtain ⟨Z, hZ⟩ : ∃ Z, V2.setCell ⟨w.heap.size, 0, none⟩ (.bool true) = Z := ⟨_, rfl⟩
      rw [hZ] at zs zb zd ⊢
      have turn : ∀ r, some D = some r → ∃ o : Obj, Z.heap[r]? = some o ∧ o.isCells = false := fun r e => by cases e; exact ⟨_, zd, rfl⟩
      have ys := block_kept zs (grownBy_putObj' Z D (.deferred none)) turn
      have yB := zb.trans (belowK_b (w := w) (Nat.le_refl _) Z D _ (.deferred none) hDw zd rfl rfl)
      have r1 : (Z.putObj D (.deferred none)).cell? ⟨w.heap.size, 0, none⟩ = some (.bool true) := by rw [Lib.cell_of_heap ys]; rfl
      refine ⟨by simp, .inl ⟨_, _, rfl, run_takeDeferred zd, ?_⟩⟩
      exact ⟨.bool true, by simp [results, Try.results4, go_sem, r1], rfl, yB⟩
    case stop => exact fun D pre W hD hS h hK => h.elim
  · have hbI : ((100 : Int) < (n : Int)) := by omega
    go_enter Try.func4, Try.ntmps4
    have HB0 := Lib.hid (fun o => (Below.refl _ w).alloc (Nat.le_refl _) o)
    go_wp2_with (go_at_call 7; refine (first_any _).mono ?_; rintro e w1 ⟨rfl, h1⟩; have hR := (h1.block w.heap.size (by simp)).trans (alloc_new w _); have r0 : w1.cell? ⟨w.heap.size, 0, none⟩ = some (.bool false) := (by rw [Lib.cell_of_heap hR]; rfl); have fr := Lib.frozen_of_heap hR 0; have HR := Lib.hid hR; have HB1 := Lib.hid ((HB0.out _).trans (h1.mono (by simp))); clear h1 hR)
    exact bodyPost_ret (v := .bool true) (by have zs := blk_set (o := 0) HR.out (.bool true); have r1 : (w1.setCell ⟨w.heap.size, 0, none⟩ (.bool true)).cell? ⟨w.heap.size, 0, none⟩ = some (.bool true) := (by rw [Lib.cell_of_heap zs]; rfl); simp [results, Try.results4, go_sem, r1]) rfl ⟨rfl, HB1.out.setCell (p := ⟨w.heap.size, 0, none⟩) (Nat.le_refl _) _⟩
end Go.Proofs.Ytmbaolcdjgilpaa
