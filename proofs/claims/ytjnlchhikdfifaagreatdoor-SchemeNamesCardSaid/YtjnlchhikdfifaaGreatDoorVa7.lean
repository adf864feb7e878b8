/- Merged: FrClose, FrFresh, UfPure, UfMost, UfEnds, UfList, TyHas, UfGood, UfRThen, UfRBind, UfRUni, UfRAll, UfSee, UfLaws, SfA, FrP, GvP, GvCan, GvSame, NmS, GvTh. -/
import Derived.Test.YtjnlchhikdfifaaGreatDoorVa4
import Derived.Test.YtjnlchhikdfifaaGreatDoorVa6
import Derived.Test.YtjnlchhikdfifaaGreatDoorVa5
import Derived.Test.YtjnlchhikdfifaaGreatDoorVa1
import Derived.Test.YtjnlchhikdfifaaGreatDoorVa3
import Derived.Deep.RegionLaw
import Derived.Stop.RegionWithIn
import Derived.WalkKit
import Derived.LaidEql
import Derived.Deep.RegionWith
import Derived.Test.YtjnlchhikdfifaaGreatDoorProg
import Derived.Lib.Hide
import Derived.Test.YtjnlchhikdfifaaGreatDoorVa2
/- paideiaref4.Close, of whatever context, with nothing left out. -/
namespace Go.Proofs.YtjnlchhikdfifaaGreatDoor
open Go.RowKit Go.Sort Go.Lib
attribute [local go_sem] Oper.semAt_some

theorem Tryz.infoStrC : (Tryz.prog.info? 9).map (fun i => (i.zero, i.size, i.bytes)) = some (some (.string ⟨#[]⟩), 1, 16) := by kernel_rfl
theorem frz_one (w : World) (x : Value) (t : TypeId) : ∀ j v, [x][j]? = some v → (w.alloc (.cells #[x] t)).cell? ((⟨w.heap.size, 0, none⟩ : Addr).add j) = some v := by
  intro j v hv
  have hadd : (⟨w.heap.size, 0, none⟩ : Addr).add j = ⟨w.heap.size, j, none⟩ := by unfold Addr.add; split <;> simp_all
  rw [hadd]
  have := alloc_new w (.cells #[x] t)
  simp only [World.cell?, this]
  match j, hv with
  | 0, hv => simpa using hv
  | n + 1, hv => simp at hv
theorem own_drew {W : World} {base : Nat} {e : TypeId} {size m : Nat} {vs : Value} {xs : List Value} (h : W.ownsRow base e size vs m xs) : W.drew.ownsRow base e size vs m xs := h
/-- What the loop keeps: the scheme in its block, its variables in a row of one's own; all else as it was behind Vars. -/
def CLI (p : Nat) (w W2 : World) (C K N S : Value) (L : List ByteArray) (i : Nat) (v : Value) (wr : World) : Prop :=
  wr.heap[p]? = some (.cells #[v, C, K, N, S] 33 (0, 0)) ∧ wr.ownsRow W2.heap.size 9 1 v i ((L.take i).map Value.string) ∧ (∀ k, k < W2.heap.size → k ≠ p → wr.heap[k]? = W2.heap[k]?) ∧ Below w.heap.size w wr ∧ W2.heap.size ≤ wr.heap.size
theorem CLI.step {p : Nat} {w W2 : World} {C K N S : Value} {L : List ByteArray} {i : Nat} {b : Option Addr} {d : Nat} {wr W5 : World} {o : Obj} {g cap : Nat} (h : CLI p w W2 C K N S L i (.slice b i d) wr) (hp : p < W2.heap.size) (hwp : w.heap.size ≤ p) (hi : i < L.length) (hg : (wr.alloc o).grownBy W5 (Value.slice b i d).ownBlock)
    (ho : W5.ownsRow W2.heap.size 9 1 (.slice (some ⟨g, 0, none⟩) (i + 1) cap) (i + 1) ((L.take i).map Value.string ++ [.string (L.getD i ⟨#[]⟩)])) :
    CLI p w W2 C K N S L (i + 1) (.slice (some ⟨g, 0, none⟩) (i + 1) cap) (W5.setCell ⟨p, 0, none⟩ (.slice (some ⟨g, 0, none⟩) (i + 1) cap)) := by
  obtain ⟨h1, h2, h3, h4, h5⟩ := h
  have hne : some p ≠ (Value.slice b i d).ownBlock := fun e => by have := (h2.lt p e.symm).1; omega
  have e1 : W5.heap[p]? = some (.cells #[.slice b i d, C, K, N, S] 33 (0, 0)) := (hg.block p (by simp; omega) hne).trans ((Below.heap_alloc wr o p (by omega)).trans h1)
  have hs : wr.heap.size ≤ W5.heap.size := by have := hg.size; simp at this; omega
  have hss : (W5.setCell ⟨p, 0, none⟩ (.slice (some ⟨g, 0, none⟩) (i + 1) cap)).heap.size = W5.heap.size := by simp [World.setCell]
  refine ⟨blk_set (o := 0) e1 _, ?_, fun k hk hkp => ?_, ?_, by omega⟩
  · have et : (L.take (i + 1)).map Value.string = (L.take i).map Value.string ++ [.string (L.getD i ⟨#[]⟩)] := by
      rw [List.take_succ_eq_append_getElem hi, List.map_append, show L.getD i ⟨#[]⟩ = L[i] by simp [List.getD, hi]]; rfl
    rw [et]
    refine own_keep (p := p) ho (fun k o' hk hkp => (Below.heap_setCell _ ⟨p, 0, none⟩ _ k hkp).trans hk) hp
  · refine (Below.heap_setCell _ ⟨p, 0, none⟩ _ k hkp).trans ((hg.block k (by simp; omega) (fun e => ?_)).trans ((Below.heap_alloc wr o k (by omega)).trans (h3 k hk hkp)))
    have := (h2.lt k e.symm).1; omega
  · exact ((h4.alloc (by have := h4.size; omega) o).grown hg (by simp; have := h4.size; omega) (fun j hj => by have := (h2.lt j hj).1; omega)).setCell (p := ⟨p, 0, none⟩) hwp _
set_option maxRecDepth 100000 in
set_option maxHeartbeats 8000000 in
theorem rclose_any (t : T) (lc : List Pr) (L : List ByteArray) (hL : fvs [] [] (t :: lc.map (·.2)) = L) (hLn : L.length ≤ 1000000) (hs : tsizes (t :: lc.map (·.2)) ≤ 1000000000) (ta va : Option Addr) (tc vc : Nat) (w : World) (ht : TysAt w (.slice ta t.kids.length tc) t.kids) (hP : PrsAt w (.slice va lc.length vc) lc) (hn : lc.length ≤ 1000000) :
    Calls Tryz.prog 17 #[.slice va lc.length vc, .agg #[.int .i64 t.kind, .string t.name, .slice ta t.kids.length tc], .slice none 0 0] w fun e w' =>
      (∃ xa xc, e = .returned (.agg #[.slice xa L.length xc, .slice va lc.length vc, .int .i64 t.kind, .string t.name, .slice ta t.kids.length tc]) ∧ TextsAt w' (.slice xa L.length xc) L) ∧ Below w.heap.size w w' := by
  obtain ⟨i0, hi, hz0, hz1, hz2⟩ := info_parts Tryz.infoStrC
  have HB3 := Lib.hid (fun o1 o2 o3 => below_three w o1 o2 o3)
  have HN3 := Lib.hid (fun o1 o2 o3 => new_three w o1 o2 o3)
  have HT := Lib.hid ht; have HP := Lib.hid hP; have HL := Lib.hid hL; have HS := Lib.hid hs
  clear ht hP hL hs
  go_enter Tryz.func17, Tryz.ntmps17
  go_wp2_with (go_at_call 36; fail)
  have hb0 := HB3.out (.cells #[.int .i64 t.kind, .string t.name, .slice ta t.kids.length tc] 31) (.cells #[.slice none 0 0, .slice none 0 0, .int .i64 0, .string ⟨#[]⟩, .slice none 0 0] 33) (.cells #[.slice none 0 0, .slice va lc.length vc, .int .i64 t.kind, .string t.name, .slice ta t.kids.length tc] 33)
  obtain ⟨n1, n2, n3⟩ := HN3.out (.cells #[.int .i64 t.kind, .string t.name, .slice ta t.kids.length tc] 31) (.cells #[.slice none 0 0, .slice none 0 0, .int .i64 0, .string ⟨#[]⟩, .slice none 0 0] 33) (.cells #[.slice none 0 0, .slice va lc.length vc, .int .i64 t.kind, .string t.name, .slice ta t.kids.length tc] 33)
  refine (rallc_any t lc ta va tc vc _ (HT.out.keep (KeepT.of_below hb0)) (HP.out.keep (KeepT.of_below hb0) (KeepP.of_below hb0)) hn).mono ?_
  rintro e w1 ⟨⟨aa, ac, rfl, ht1⟩, hb1⟩
  have HZ1 := Lib.hid (And.intro hb0 (And.intro hb1 (And.intro n2 n3)))
  have hT1 := rVars_any (t :: lc.map (·.2)) HS.out aa ac w1 (by simpa using ht1)
  simp only [List.length_cons, List.length_map] at hT1
  have HT1 := Lib.hid hT1
  clear hb0 hb1 n1 n2 n3 ht1 hT1
  go_wp2_with (go_at_call 28; fail)
  refine HT1.out.mono ?_
  rintro e W2 ⟨⟨v, rfl, hv⟩, hb2⟩
  rw [HL.out] at hv
  obtain ⟨la, ld, rfl⟩ := hv.shape
  have hq2 := HZ1.out.2.1.size
  have hq3 := hb2.size
  have hq1 : w.heap.size + 1 + 1 + 1 ≤ w1.heap.size := by simpa using hq2
  have hbx := (hb2.block _ (show w.heap.size + 1 + 1 < w1.heap.size by omega)).trans ((HZ1.out.2.1.block (w.heap.size + 1 + 1) (by simp)).trans HZ1.out.2.2.2)
  have hbz := (hb2.block _ (show w.heap.size + 1 < w1.heap.size by omega)).trans ((HZ1.out.2.1.block (w.heap.size + 1) (by simp)).trans HZ1.out.2.2.1)
  have HZ := Lib.hid hbz
  have HX := Lib.hid hv
  have HX2 := Lib.hid hv.strs
  have HI := Lib.hid (show CLI (w.heap.size + 1 + 1) w W2 (.slice va lc.length vc) (.int .i64 t.kind) (.string t.name) (.slice ta t.kids.length tc) L 0 (.slice none 0 0) W2 from ⟨hbx, World.ownsRow_nil _ _ _ _, fun _ _ _ => rfl, HZ1.out.1.trans ((HZ1.out.2.1.trans (hb2.mono hq2)).mono (by simp; omega)), Nat.le_refl _⟩)
  have HXp := Lib.hid hbx
  have hp2 : w.heap.size + 1 + 1 < W2.heap.size := by omega
  clear hv hb2 hbx hbz HZ1 HT1 HB3 HN3 HT HP HS HL hq2 hq3 hq1
  go_wp2
  go_loopw [9] (fun vi wr => ∃ (i d : Nat) (b : Option Addr), i ≤ L.length ∧ vi = .int .i64 i ∧ Hid (CLI (w.heap.size + 1 + 1) w W2 (.slice va lc.length vc) (.int .i64 t.kind) (.string t.name) (.slice ta t.kids.length tc) L i (.slice b i d) wr)) (fun vi _ => L.length - (intOf vi).toNat)
  case atStart => exact ⟨0, 0, none, Nat.zero_le _, rfl, HI⟩
  case round =>
    obtain ⟨i, d, b, hi', rfl, hI⟩ := hrel
    clear HI
    by_cases hlt : i < L.length
    · obtain ⟨gL, oL, rfl, lL, cL⟩ := HX2.out.at (by omega)
      have hneL : gL ≠ w.heap.size + 1 + 1 := fun e => by
        obtain ⟨a', cap', e', hh⟩ := HX.out
        rcases hh with hh | ⟨g, eg, _, cs, fz, hg, _⟩
        · rw [hh] at hlt; exact absurd hlt (Nat.not_lt_zero _)
        · have : g = gL := by have := congrArg (fun v => match v with | Value.slice (some a) _ _ => a.block | _ => 0) e'; rw [eg] at this; exact this.symm
          subst this
          rw [e, HXp.out] at hg
          simp at hg
      have xL : wr.cell? ⟨gL, oL + i, none⟩ = some (.string (L.getD i ⟨#[]⟩)) := (World.cell?_of_block (a := ⟨gL, oL + i, none⟩) (hI.out.2.2.1 gL lL hneL)).trans (cL i hlt)
      have HSt := Lib.hid (fun (o : Obj) (W5 : World) (g cap : Nat) => hI.out.step (o := o) (W5 := W5) (g := g) (cap := cap) hp2 (by omega) hlt)
      obtain ⟨x0, x1, x2, x3, x4⟩ := cells5 hI.out.1
      have hz := hI.out.2.2.2.2
      have hbl : gL < wr.heap.size := by omega
      have hpl : w.heap.size + 1 + 1 < wr.heap.size := by omega
      have HR := Lib.hid hI.out.2.1
      have HBx := Lib.hid hI.out.1
      have hlI : (i : Int) < (L.length : Int) := by omega
      clear cL
      generalize L.getD i ⟨#[]⟩ = f at *
      have hHas : ∀ W, Calls Tryz.prog 29 #[.slice none 0 0, .string f] W fun e w' => e = .returned (.bool false) ∧ W = w' := fun W => hasR_any [] (by decide) f none 0 W ⟨none, 0, rfl, .inl rfl⟩
      have HHas := Lib.hid hHas
      clear hHas
      go_wp2_with (go_at_call 29; refine (HHas.out _).mono ?_; rintro e w' ⟨rfl, rfl⟩)
      go_region_law (refine step_append_lies _ (by rfl) _ _ _ (by rfl) W2.heap.size 9 i0 (.string ⟨#[]⟩) 1 16 Tryz.underlying23 hi hz0 hz1 hz2 rfl (by decide) _ _ _ (by rfl) (own_drew (HR.out.alloc _)) ⟨wr.heap.size, 0, none⟩ 1 1 [.string f] (by rfl) rfl (frz_one _ _ _) (by simp [Value.oneCell']) (by decide) (by unfold maxLen; omega) (by omega) (by simp; omega) _ rfl ?_; intro g cap W5 hown5 hgrow _ _; have HO5 := Lib.hid hown5; have HG5 := Lib.hid (show (wr.alloc _).grownBy W5 (Value.slice b i d).ownBlock from ⟨hgrow.os, hgrow.tape, hgrow.output, hgrow.size, hgrow.block⟩); have hx5 := (HG5.out.block (w.heap.size + 1 + 1) (by simp; omega) (fun e => by have := (HR.out.lt _ e.symm).1; omega)).trans ((Below.heap_alloc wr _ _ hpl).trans HBx.out); obtain ⟨y0, y1, y2, y3, y4⟩ := cells5 hx5; have fy := Lib.frozen_of_heap hx5 0; clear hown5 hgrow hx5)
      all_goals go_wp2
      all_goals
        go_roundw
        case rel => exact ⟨i + 1, _, _, by omega, by go_num, Lib.hid (HSt.out _ _ _ _ HG5.out HO5.out)⟩
        case measure => simp [intOf]; omega
    · obtain rfl : i = L.length := by omega
      have hz1' := (hI.out.2.2.1 (w.heap.size + 1) (by omega) (by omega)).trans HZ.out
      obtain ⟨x0, x1, x2, x3, x4⟩ := cells5 hI.out.1
      obtain ⟨u0, u1, u2, u3, u4⟩ := cells5 hz1'
      have f0 := Lib.frozen_of_heap hz1' 0
      have f1 := Lib.frozen_of_heap hz1' 1
      have f2 := Lib.frozen_of_heap hz1' 2
      have f3 := Lib.frozen_of_heap hz1' 3
      have f4 := Lib.frozen_of_heap hz1' 4
      have HZ4 := Lib.hid hz1'
      clear hz1'
      go_wp2
      have hc := cells5 (set5_block HZ4.out (.slice b L.length d) (.slice va lc.length vc) (.int .i64 t.kind) (.string t.name) (.slice ta t.kids.length tc))
      unfold set5 at hc
      have hrow := hI.out.2.1
      rw [List.take_length] at hrow
      have hT := (TextsAt.of_row hrow).keep (w' := set5 wr (w.heap.size + 1) (.slice b L.length d) (.slice va lc.length vc) (.int .i64 t.kind) (.string t.name) (.slice ta t.kids.length tc)) fun k cs fz hk => (set5_other _ _ _ _ _ _ _ (fun e => by subst e; rw [HZ4.out] at hk; simp at hk)).trans hk
      have hB := below_set5 hI.out.2.2.2.1 (show w.heap.size ≤ w.heap.size + 1 by omega) (.slice b L.length d) (.slice va lc.length vc) (.int .i64 t.kind) (.string t.name) (.slice ta t.kids.length tc)
      exact bodyPost_ret (v := .agg #[.slice b L.length d, .slice va lc.length vc, .int .i64 t.kind, .string t.name, .slice ta t.kids.length tc]) (by simp [results, Tryz.results17, go_sem, hc.1, hc.2.1, hc.2.2.1, hc.2.2.2.1, hc.2.2.2.2]) rfl ⟨⟨_, _, rfl, hT⟩, hB⟩
end Go.Proofs.YtjnlchhikdfifaaGreatDoor
/- scheme.Fresh. -/
namespace Go.Proofs.YtjnlchhikdfifaaGreatDoor
open Go.RowKit Go.Sort Go.Lib
attribute [local go_sem] Oper.semAt_some

/-- The name of a number. -/
def qn (u : Nat) : ByteArray := ⟨#[63]⟩ ++ ⟨(Lib.decDigits u).toArray⟩
def Tab (w : World) : Prop := Lib.TabIs Tryz.prog w "internal/strconv.uint64pow10" .u64 Lib.pow10Tab
theorem Tab.below {w w' : World} (h : Tab w) (hb : Below w.heap.size w w') : Tab w' := by
  have hg : Tryz.prog.globalNamed "internal/strconv.uint64pow10" = some 0 := by kernel_rfl
  unfold Tab Lib.TabIs World.var? at *
  simp only [hg, Option.bind_some] at h ⊢
  by_cases hl : 0 < w.heap.size
  · rw [hb.block _ hl]; exact h
  · rw [Array.getElem?_eq_none (by omega)] at h; simp at h
theorem dec_len (u : Nat) (h : u < 18446744073709551616) : (Lib.decDigits u).length ≤ 20 := by
  rw [Lib.decDigits_length]
  by_cases h1 : 1 ≤ u
  · have := Lib.numDigits_eq u h1 h
    split at this <;> omega
  · obtain rfl : u = 0 := by omega
    rw [← Lib.decDigits_length, Lib.decDigits]; simp
set_option maxRecDepth 100000 in
set_option maxHeartbeats 4000000 in
theorem numbered_any (z i : Nat) (hz : z + i < 1000000) (w : World) (ht : Tab w) :
    Calls Tryz.prog 32 #[.int .i64 (z : Int), .int .i64 (i : Int)] w fun e w' => e = .returned (.string (qn (z + i))) ∧ Below w.heap.size w w' := by
  have h1 : IntKind.u64.wrap (z : Int) = (z : Int) := by rw [IntKind.wrap_u64]; omega
  have h2 : IntKind.u64.wrap (i : Int) = (i : Int) := by rw [IntKind.wrap_u64]; omega
  have h3 : IntKind.u64.wrap ((z : Int) + (i : Int)) = ((z + i : Nat) : Int) := by rw [IntKind.wrap_u64]; omega
  have h4 : ¬ ((z : Int) < 0) := by omega
  have HF := Lib.hid (funum_any (z + i) (by omega) w ht)
  clear ht
  go_enter Tryz.func32, Tryz.ntmps32
  go_wp2_with (go_at_call 59; fail)
  refine (show Calls Tryz.prog 59 #[.int .u64 ((z + i : Nat) : Int), .int .i64 10] w fun e w' => e = .returned (.string ⟨(Lib.decDigits (z + i)).toArray⟩) ∧ Below w.heap.size w w' from by
    clear h1 h2 h3 h4
    generalize z + i = u at *
    go_enter Tryz.func59, Tryz.ntmps59
    go_wp2_with (go_at_call 74; refine HF.out.mono ?_; rintro e w' ⟨rfl, hb⟩)
    go_ret
    exact ⟨rfl, hb⟩).mono ?_
  rintro e w' ⟨rfl, hb⟩
  have HB := Lib.hid hb
  clear hb HF
  have hdl : ¬ 9223372036854775807 < 1 + (Lib.decDigits (z + i)).length := by have := dec_len (z + i) (by omega); omega
  go_wp2
  go_ret
  exact ⟨rfl, HB.out⟩
def zerosS (n : Nat) : Array Value := Builtin.zeroCells (Value.string ⟨#[]⟩).cells n
theorem zerosS_size (n : Nat) : (zerosS n).size = n := by unfold zerosS; rw [size_zeroCells]; simp [Value.cells]
theorem make_rowS (n : Nat) (hn : n ≤ 1000000) (w : World) :
    (Instr.makeSlice 23 (.int .i64 (n : Int)) (.int .i64 (n : Int))).run Tryz.prog w = .ok (.slice (some ⟨w.heap.size, 0, none⟩) n n) (w.alloc (.cells (zerosS n) 9)) := by
  obtain ⟨i, hi, hzz⟩ := Option.map_eq_some_iff.1 Tryz.infoStrC
  simp only [Prod.mk.injEq] at hzz
  obtain ⟨hz, hs, hb⟩ := hzz
  have hr := run_make (P := Tryz.prog) w 23 9 i _ Tryz.underlying23 hi hz .i64 .i64 n n (by omega) (Int.le_refl _) (by rw [hb]; omega) (by omega)
  simp only [Int.toNat_natCast, hs] at hr
  exact hr
/-- The first i names are there. -/
def NamesI (g n z i : Nat) (w : World) : Prop := ∃ cs : Array Value, w.heap[g]? = some (.cells cs 9 (0, 0)) ∧ cs.size = n ∧ ∀ j, j < i → cs[j]? = some (.string (qn (z + j)))
theorem NamesI.below {g n z i : Nat} {w w' : World} (h : NamesI g n z i w) (hb : Below w.heap.size w w') : NamesI g n z i w' := by
  obtain ⟨cs, h1, h2⟩ := h; exact ⟨cs, (hb.block g (Array.getElem?_eq_some_iff.1 h1).1).trans h1, h2⟩
theorem NamesI.cell {g n z i : Nat} {w : World} (h : NamesI g n z i w) {k : Nat} (hk : k < n) : (∃ v, w.cell? ⟨g, k, none⟩ = some v) ∧ w.frozen? ⟨g, k, none⟩ = false ∧ g < w.heap.size := by
  obtain ⟨cs, h1, h2, _⟩ := h
  refine ⟨⟨cs[k]'(by omega), ?_⟩, Lib.frozen_of_heap h1 k, (Array.getElem?_eq_some_iff.1 h1).1⟩
  rw [Lib.cell_of_heap h1]
  exact Array.getElem?_eq_getElem (by omega)
theorem NamesI.next {g n z i : Nat} {w : World} (h : NamesI g n z i w) (hi : i < n) : NamesI g n z (i + 1) (w.setCell ⟨g, i, none⟩ (.string (qn (z + i)))) := by
  obtain ⟨cs, h1, h2, h3⟩ := h
  refine ⟨cs.setIfInBounds i (.string (qn (z + i))), blk_set (o := i) h1 _, by simpa using h2, fun j hj => ?_⟩
  by_cases e : j = i
  · subst e; simp [h2, hi]
  · rw [Array.getElem?_setIfInBounds_ne (Ne.symm e)]; exact h3 j (by omega)
theorem NamesI.texts {g z : Nat} {G : List ByteArray} {w : World} (h : NamesI g G.length z G.length w) (hG : ∀ j (hj : j < G.length), G[j] = qn (z + j)) : TextsAt w (.slice (some ⟨g, 0, none⟩) G.length G.length) G := by
  obtain ⟨cs, h1, h2, h3⟩ := h
  exact ⟨_, _, rfl, .inr ⟨g, rfl, Nat.le_refl _, cs, _, h1, fun i hi => by rw [h3 i hi, hG i hi]⟩⟩
set_option maxRecDepth 100000 in
set_option maxHeartbeats 8000000 in
theorem fresh_any (t : T) (F G : List ByteArray) (z : Nat) (hz : z < 100000) (hGl : G.length = F.length) (hG : ∀ j (hj : j < G.length), G[j] = qn (z + j)) (hl : F.length < 20) (hsz : tsize t ≤ 1000000000) (lc : List Pr) (hq : ∀ q ∈ lc, tsize q.2 ≤ 1000000000) (hcn : lc.length ≤ 1000000) (xa ta fa : Option Addr) (xc tc fc : Nat) (w : World)
    (ht : TysAt w (.slice ta t.kids.length tc) t.kids) (hF : TextsAt w (.slice fa F.length fc) F) (hP : PrsAt w (.slice xa lc.length xc) lc) (hT : Tab w) :
    Calls Tryz.prog 8 #[.agg #[.slice fa F.length fc, .slice xa lc.length xc, .int .i64 t.kind, .string t.name, .slice ta t.kids.length tc], .int .i64 (z : Int)] w fun e w' =>
      (∃ ga gc pa pc za zc, e = .returned (.tuple #[.agg #[.slice ga F.length gc, .slice pa lc.length pc, .int .i64 (app (prs F G) t).kind, .string (app (prs F G) t).name, .slice za (app (prs F G) t).kids.length zc], .int .i64 ((z : Int) + (F.length : Int))]) ∧ TextsAt w' (.slice ga F.length gc) G ∧ PrsAt w' (.slice pa lc.length pc) (appP (prs F G) lc) ∧ TysAt w' (.slice za (app (prs F G) t).kids.length zc) (app (prs F G) t).kids) ∧ Below w.heap.size w w' := by
  have hmk := make_rowS F.length (by omega)
  have HT := Lib.hid ht; have HF := Lib.hid hF; have HP := Lib.hid hP; have HTab := Lib.hid hT; have HG := Lib.hid hG; have HGl := Lib.hid hGl; have HQ := Lib.hid hq
  have HB3 := Lib.hid (fun o1 o2 o3 => below_three w o1 o2 o3)
  have HN3 := Lib.hid (fun o1 o2 o3 => new_three w o1 o2 o3)
  clear ht hF hP hT hG hGl hq
  go_enter Tryz.func8, Tryz.ntmps8
  go_wp2
  go_loopw [14] (fun vi wr => ∃ i : Nat, i ≤ F.length ∧ vi = .int .i64 i ∧ Hid (NamesI (w.heap.size + 1 + 1) F.length z i wr) ∧ Hid (Below w.heap.size w wr) ∧
    Hid (wr.heap[w.heap.size]? = some (.cells #[.slice fa F.length fc, .slice xa lc.length xc, .int .i64 t.kind, .string t.name, .slice ta t.kids.length tc] 33 (0, 0)) ∧ wr.heap[w.heap.size + 1]? = some (.cells #[.slice none 0 0, .slice none 0 0, .int .i64 0, .string ⟨#[]⟩, .slice none 0 0] 33 (0, 0)))) (fun vi _ => F.length - (intOf vi).toNat)
  case atStart =>
    obtain ⟨n1, n2, n3⟩ := HN3.out (.cells #[.slice fa F.length fc, .slice xa lc.length xc, .int .i64 t.kind, .string t.name, .slice ta t.kids.length tc] 33) (.cells #[.slice none 0 0, .slice none 0 0, .int .i64 0, .string ⟨#[]⟩, .slice none 0 0] 33) (.cells (zerosS F.length) 9)
    exact ⟨0, Nat.zero_le _, rfl, Lib.hid ⟨_, n3, zerosS_size _, fun j hj => absurd hj (Nat.not_lt_zero _)⟩, Lib.hid (HB3.out _ _ _), Lib.hid ⟨n1, n2⟩⟩
  case round =>
    obtain ⟨i, hi, rfl, hN, hB, hbx⟩ := hrel
    by_cases hlt : i < F.length
    · have hltI : (i : Int) < (F.length : Int) := by omega
      have HNu := Lib.hid (numbered_any z i (by omega) wr (HTab.out.below (hB.out.mono (Nat.le_refl _))))
      clear hmk
      go_wp2_with (go_at_call 32; fail)
      refine HNu.out.mono ?_
      rintro e w4 ⟨rfl, hb4⟩
      have hN4 := hN.out.below hb4
      obtain ⟨⟨v0, hc0⟩, hf0, hl0⟩ := hN4.cell hlt
      have HNx := Lib.hid (hN4.next hlt)
      have hB4 := hB.out.trans (hb4.mono hB.out.size)
      have HBx := Lib.hid (hB4.setCell (p := ⟨w.heap.size + 1 + 1, i, none⟩) (by simp; omega) (.string (qn (z + i))))
      have hl2 : w.heap.size + 1 < wr.heap.size := (Array.getElem?_eq_some_iff.1 hbx.out.2).1
      have Hbx := Lib.hid (And.intro ((Below.heap_setCell w4 ⟨w.heap.size + 1 + 1, i, none⟩ (.string (qn (z + i))) w.heap.size (by simp; omega)).trans ((hb4.block _ (by omega)).trans hbx.out.1)) ((Below.heap_setCell w4 ⟨w.heap.size + 1 + 1, i, none⟩ (.string (qn (z + i))) (w.heap.size + 1) (by simp)).trans ((hb4.block _ hl2).trans hbx.out.2)))
      clear hN4 hb4 hB4 HNu
      go_wp2
      go_roundw
      case rel => exact ⟨i + 1, by omega, by go_num, HNx, HBx, Hbx⟩
      case measure => simp [intOf]; omega
    · obtain rfl : i = F.length := by omega
      have hTx := NamesI.texts (G := G) (z := z) (g := w.heap.size + 1 + 1) (w := wr) (by rw [HGl.out]; exact hN.out) HG.out
      rw [HGl.out] at hTx
      have hk := KeepT.of_below hB.out
      have hR := fren_any t F G HGl.out.symm hl hsz lc HQ.out hcn (.slice fa F.length fc) xa ta fa (some ⟨w.heap.size + 1 + 1, 0, none⟩) xc tc fc F.length wr (HT.out.keep hk) (HF.out.below hB.out).strs (by have := hTx.strs; rw [HGl.out]; exact this) (HP.out.keep hk (KeepP.of_below hB.out))
      rw [HGl.out] at hR
      have HR := Lib.hid hR
      have HTx := Lib.hid hTx
      obtain ⟨x0, x1, x2, x3, x4⟩ := cells5 hbx.out.1
      clear hR hTx hk hN hmk HB3 HN3
      go_wp2_with (go_at_call 33; fail)
      refine HR.out.mono ?_
      rintro e w4 ⟨⟨pa, pc, za, zc, rfl, hp4, ht4⟩, hb4⟩
      have hl2 : w.heap.size + 1 < wr.heap.size := (Array.getElem?_eq_some_iff.1 hbx.out.2).1
      have hz4 := (hb4.block _ hl2).trans hbx.out.2
      obtain ⟨u0, u1, u2, u3, u4⟩ := cells5 hz4
      have f0 := Lib.frozen_of_heap hz4 0
      have f1 := Lib.frozen_of_heap hz4 1
      have f2 := Lib.frozen_of_heap hz4 2
      have f3 := Lib.frozen_of_heap hz4 3
      have f4 := Lib.frozen_of_heap hz4 4
      have hoth := fun k cs T (fz : Nat × Nat) (hT : T ≠ 33) (hk : w4.heap[k]? = some (.cells cs T fz)) => (set5_other w4 (w.heap.size + 1) (.slice (some ⟨w.heap.size + 1 + 1, 0, none⟩) F.length F.length) (.slice pa lc.length pc) (.int .i64 (app (prs F G) t).kind) (.string (app (prs F G) t).name) (.slice za (app (prs F G) t).kids.length zc) (k := k) (fun e => by subst e; rw [hz4] at hk; simp at hk; exact hT hk.2.1.symm)).trans hk
      have HEnd := Lib.hid (And.intro ((HTx.out.below hb4).keep fun k cs fz hk => hoth k cs _ fz (by decide) hk) (And.intro (hp4.keep (fun k cs fz hk => hoth k cs _ fz (by decide) hk) (fun k cs fz hk => hoth k cs _ fz (by decide) hk)) (And.intro (ht4.keep (fun k cs fz hk => hoth k cs _ fz (by decide) hk)) (below_set5 (hB.out.trans (hb4.mono hB.out.size)) (show w.heap.size ≤ w.heap.size + 1 by omega) (.slice (some ⟨w.heap.size + 1 + 1, 0, none⟩) F.length F.length) (.slice pa lc.length pc) (.int .i64 (app (prs F G) t).kind) (.string (app (prs F G) t).name) (.slice za (app (prs F G) t).kids.length zc)))))
      have hc := cells5 (set5_block hz4 (.slice (some ⟨w.heap.size + 1 + 1, 0, none⟩) F.length F.length) (.slice pa lc.length pc) (.int .i64 (app (prs F G) t).kind) (.string (app (prs F G) t).name) (.slice za (app (prs F G) t).kids.length zc))
      clear hp4 ht4 hb4 hoth HR HTx hbx hB
      go_wp2
      unfold set5 at hc
      exact bodyPost_ret (v := .tuple #[.agg #[.slice (some ⟨w.heap.size + 1 + 1, 0, none⟩) F.length F.length, .slice pa lc.length pc, .int .i64 (app (prs F G) t).kind, .string (app (prs F G) t).name, .slice za (app (prs F G) t).kids.length zc], .int .i64 ((z : Int) + (F.length : Int))]) (by simp [results, Tryz.results8, go_sem, hc.1, hc.2.1, hc.2.2.1, hc.2.2.2.1, hc.2.2.2.2]) rfl ⟨⟨_, _, _, _, _, _, rfl, HEnd.out.1, HEnd.out.2.1, HEnd.out.2.2.1⟩, HEnd.out.2.2.2⟩
end Go.Proofs.YtjnlchhikdfifaaGreatDoor
/- Two types as one, as plain data: what the chapter's way finds, that it ends, that it is the most general. -/
namespace Go.Proofs.YtjnlchhikdfifaaGreatDoor

theorem T.kidsInd {P : T → Prop} (H : ∀ t, (∀ k ∈ t.kids, P k) → P t) : ∀ t, P t := by
  have key : ∀ n, ∀ t : T, SizeOf.sizeOf t ≤ n → P t := by
    intro n
    induction n with
    | zero => intro t ht; exact H t fun k hk => by have := T.kid_size hk; omega
    | succ n ih => intro t ht; exact H t fun k hk => ih k (by have := T.kid_size hk; omega)
  exact fun t => key _ t (Nat.le_refl _)
/-- Types for variables. -/
abbrev Sg := ByteArray → T
mutual
def sub (σ : Sg) : T → T
  | .var n => σ n
  | .con n l => .con n (subs σ l)
  | .fn a b => .fn (sub σ a) (sub σ b)
  | .all n a => .all n (sub σ a)
def subs (σ : Sg) : List T → List T
  | [] => []
  | a :: l => sub σ a :: subs σ l
end
theorem subs_map (σ : Sg) : ∀ l, subs σ l = l.map (sub σ)
  | [] => rfl
  | a :: l => by rw [subs, subs_map σ l]; rfl
def T.isV : T → Bool
  | .var _ => true
  | _ => false
theorem isV_var {t : T} (h : t.isV = true) : t = .var t.name := by cases t <;> simp_all [T.isV, T.name]
theorem sub_parts (σ : Sg) (t : T) (h : t.isV = false) : (sub σ t).kind = t.kind ∧ (sub σ t).name = t.name ∧ (sub σ t).kids = t.kids.map (sub σ) ∧ (sub σ t).isV = false := by
  cases t with
  | var n => simp [T.isV] at h
  | con n l => rw [sub, subs_map]; exact ⟨rfl, rfl, rfl, rfl⟩
  | fn a b => rw [sub]; exact ⟨rfl, rfl, rfl, rfl⟩
  | all n a => rw [sub]; exact ⟨rfl, rfl, rfl, rfl⟩
/-- Two that are no variables are the same by their heads and their parts. -/
theorem sub_congr {σ τ : Sg} {t : T} (h : t.isV = false) (hk : ∀ k ∈ t.kids, sub σ k = sub τ k) : sub σ t = sub τ t := by
  obtain ⟨a1, a2, a3, _⟩ := sub_parts σ t h
  obtain ⟨b1, b2, b3, _⟩ := sub_parts τ t h
  refine T.ext3 (a1.trans b1.symm) (a2.trans b2.symm) ?_
  rw [a3, b3]
  exact List.map_congr_left hk
mutual
/-- The variables that stand in a type. -/
def vs : T → List ByteArray
  | .var n => [n]
  | .con _ l => vss l
  | .fn a b => vs a ++ vs b
  | .all _ a => vs a
def vss : List T → List ByteArray
  | [] => []
  | a :: l => vs a ++ vss l
end
theorem vss_mem {x : ByteArray} : ∀ {l : List T}, x ∈ vss l ↔ ∃ k ∈ l, x ∈ vs k
  | [] => by simp [vss]
  | a :: l => by rw [vss, List.mem_append, vss_mem (l := l)]; simp
theorem vs_kids {x : ByteArray} {t : T} (h : t.isV = false) : x ∈ vs t ↔ ∃ k ∈ t.kids, x ∈ vs k := by
  cases t with
  | var n => simp [T.isV] at h
  | con n l => rw [vs, vss_mem]; rfl
  | fn a b => simp [vs, T.kids]
  | all n a => simp [vs, T.kids]
theorem sub_ext {σ τ : Sg} : ∀ t, (∀ x ∈ vs t, σ x = τ x) → sub σ t = sub τ t := by
  refine T.kidsInd fun t ih h => ?_
  by_cases hv : t.isV = true
  · rw [isV_var hv]; exact h _ (by rw [isV_var hv]; simp [vs, T.name])
  · have hv' : t.isV = false := by simpa using hv
    exact sub_congr hv' fun k hk => ih k hk fun x hx => h x ((vs_kids hv').2 ⟨k, hk, hx⟩)
theorem sub_var : ∀ t, sub T.var t = t := by
  refine T.kidsInd fun t ih => ?_
  by_cases hv : t.isV = true
  · rw [isV_var hv]; rfl
  · obtain ⟨a1, a2, a3, _⟩ := sub_parts T.var t (by simpa using hv)
    refine T.ext3 a1 a2 ?_
    rw [a3]
    conv => rhs; rw [← List.map_id t.kids]
    exact List.map_congr_left fun k hk => ih k hk
theorem sub_id {σ : Sg} {t : T} (h : ∀ x ∈ vs t, σ x = .var x) : sub σ t = t := (sub_ext t h).trans (sub_var t)
theorem sub_sub (τ σ : Sg) : ∀ t, sub τ (sub σ t) = sub (fun n => sub τ (σ n)) t := by
  refine T.kidsInd fun t ih => ?_
  by_cases hv : t.isV = true
  · rw [isV_var hv]; rfl
  · have hv' : t.isV = false := by simpa using hv
    obtain ⟨a1, a2, a3, a4⟩ := sub_parts σ t hv'
    obtain ⟨b1, b2, b3, _⟩ := sub_parts τ (sub σ t) a4
    obtain ⟨c1, c2, c3, _⟩ := sub_parts (fun n => sub τ (σ n)) t hv'
    refine T.ext3 (b1.trans (a1.trans c1.symm)) (b2.trans (a2.trans c2.symm)) ?_
    rw [b3, a3, c3, List.map_map]
    exact List.map_congr_left fun k hk => ih k hk
theorem vs_sub {σ : Sg} {x : ByteArray} : ∀ t, x ∈ vs (sub σ t) ↔ ∃ y ∈ vs t, x ∈ vs (σ y) := by
  refine T.kidsInd fun t ih => ?_
  by_cases hv : t.isV = true
  · rw [isV_var hv]; simp [sub, vs]
  · have hv' : t.isV = false := by simpa using hv
    obtain ⟨_, _, a3, a4⟩ := sub_parts σ t hv'
    rw [vs_kids a4, a3]
    constructor
    · rintro ⟨k, hk, hx⟩
      obtain ⟨k0, hk0, rfl⟩ := List.mem_map.1 hk
      obtain ⟨y, hy, h⟩ := (ih k0 hk0).1 hx
      exact ⟨y, (vs_kids hv').2 ⟨k0, hk0, hy⟩, h⟩
    · rintro ⟨y, hy, h⟩
      obtain ⟨k0, hk0, hy⟩ := (vs_kids hv').1 hy
      exact ⟨_, List.mem_map.2 ⟨k0, hk0, rfl⟩, (ih k0 hk0).2 ⟨y, hy, h⟩⟩
theorem tsizes_mem {k : T} : ∀ {l : List T}, k ∈ l → tsize k ≤ tsizes l
  | [], h => by cases h
  | a :: l, h => by
    rw [tsizes]
    rcases List.mem_cons.1 h with rfl | h
    · omega
    · have := tsizes_mem h; omega
theorem tsize_pos (t : T) : 1 ≤ tsize t := by rw [tsize_eq]; omega
theorem tsize_kid {t k : T} (h : k ∈ t.kids) : tsize k < tsize t := by rw [tsize_eq t]; have := tsizes_mem h; omega
theorem size_sub {σ : Sg} {x : ByteArray} : ∀ t, x ∈ vs t → tsize (σ x) ≤ tsize (sub σ t) := by
  refine T.kidsInd fun t ih h => ?_
  by_cases hv : t.isV = true
  · rw [isV_var hv] at h ⊢
    simp [vs, T.name] at h
    subst h; exact Nat.le_refl _
  · have hv' : t.isV = false := by simpa using hv
    obtain ⟨k, hk, hx⟩ := (vs_kids hv').1 h
    obtain ⟨_, _, a3, _⟩ := sub_parts σ t hv'
    have := ih k hk hx
    have h2 : tsize (sub σ k) < tsize (sub σ t) := tsize_kid (by rw [a3]; exact List.mem_map.2 ⟨k, hk, rfl⟩)
    omega
/-- A variable within a type that is none: the type is greater. -/
theorem size_sub_lt {σ : Sg} {x : ByteArray} {t : T} (hv : t.isV = false) (h : x ∈ vs t) : tsize (σ x) < tsize (sub σ t) := by
  obtain ⟨k, hk, hx⟩ := (vs_kids hv).1 h
  obtain ⟨_, _, a3, _⟩ := sub_parts σ t hv
  have h1 := size_sub (σ := σ) k hx
  have h2 : tsize (sub σ k) < tsize (sub σ t) := tsize_kid (by rw [a3]; exact List.mem_map.2 ⟨k, hk, rfl⟩)
  omega

/-- What comes of two types: the variables' types, or why there are none (true: the variable stands in the type). -/
inductive UR where
  | ok (σ : Sg)
  | bad (e : Bool)
open Classical in
noncomputable def one (x : ByteArray) (u : T) : Sg := fun n => if n = x then u else .var n
open Classical in
noncomputable def bindU (σ : Sg) (x : ByteArray) (u : T) : UR := if x ∈ vs u then .bad true else .ok (fun n => sub (one x u) (σ n))
noncomputable def uniL (u : Sg → T → T → Option UR) : Sg → List T → List T → Option UR
  | σ, a :: l, b :: m => match u σ a b with
    | some (.ok τ) => uniL u τ l m
    | r => r
  | σ, _, _ => some (.ok σ)
open Classical in
noncomputable def stepU (u : Sg → T → T → Option UR) (σ : Sg) (a b : T) : Option UR :=
  if a.isV = true ∧ b.isV = true ∧ a.name = b.name then some (.ok σ)
  else if a.isV = true then some (bindU σ a.name b)
  else if b.isV = true then some (bindU σ b.name a)
  else if a.kind = b.kind ∧ a.name = b.name ∧ a.kids.length = b.kids.length then uniL u σ a.kids b.kids
  else some (.bad false)
noncomputable def uni : Nat → Sg → T → T → Option UR
  | 0, _, _, _ => none
  | f + 1, σ, a, b => stepU (uni f) σ (sub σ a) (sub σ b)

theorem one_at (x : ByteArray) (u : T) : one x u x = u := by simp [one]
theorem one_ne {x y : ByteArray} (u : T) (h : y ≠ x) : one x u y = .var y := by simp [one, h]
/-- What is found is at its end: no variable that has a type stands in any of the types. -/
def Idem (σ : Sg) : Prop := ∀ x, ∀ y ∈ vs (σ x), σ y = .var y
theorem idem_var : Idem T.var := fun _ _ _ => rfl
theorem Idem.on {σ : Sg} (h : Idem σ) {t : T} {y : ByteArray} (hy : y ∈ vs (sub σ t)) : σ y = .var y := by
  obtain ⟨x, _, hx⟩ := (vs_sub t).1 hy
  exact h x y hx
theorem Idem.twice {σ : Sg} (h : Idem σ) (t : T) : sub σ (sub σ t) = sub σ t := sub_id fun _ hx => h.on hx
/-- More was found. -/
def ExtU (σ τ : Sg) : Prop := ∃ δ : Sg, ∀ x, τ x = sub δ (σ x)
theorem ExtU.refl (σ : Sg) : ExtU σ σ := ⟨T.var, fun _ => (sub_var _).symm⟩
theorem ExtU.trans {σ τ ρ : Sg} (h : ExtU σ τ) (k : ExtU τ ρ) : ExtU σ ρ := by
  obtain ⟨d, h⟩ := h; obtain ⟨e, k⟩ := k
  exact ⟨fun n => sub e (d n), fun x => by rw [k x, h x, sub_sub]⟩
theorem ExtU.sub {σ τ : Sg} (h : ExtU σ τ) (hi : Idem σ) (t : T) : sub τ (Go.Proofs.YtjnlchhikdfifaaGreatDoor.sub σ t) = Go.Proofs.YtjnlchhikdfifaaGreatDoor.sub τ t := by
  obtain ⟨d, h⟩ := h
  have e : ∀ t, Go.Proofs.YtjnlchhikdfifaaGreatDoor.sub τ t = Go.Proofs.YtjnlchhikdfifaaGreatDoor.sub d (Go.Proofs.YtjnlchhikdfifaaGreatDoor.sub σ t) := fun t => by rw [sub_sub]; exact sub_ext t fun x _ => h x
  rw [e, hi.twice, ← e]

/-- A variable that has no type yet gets one. -/
structure Binds (σ : Sg) (x : ByteArray) (u : T) (τ : Sg) : Prop where
  free : σ x = .var x
  out : x ∉ vs u
  fix : sub σ u = u
  new : τ = fun n => sub (one x u) (σ n)
theorem one_out {x : ByteArray} {u t : T} (h : x ∉ vs t) : sub (one x u) t = t := sub_id fun _ hy => one_ne u fun e => h (e ▸ hy)
theorem Binds.idem {σ τ : Sg} {x : ByteArray} {u : T} (h : Binds σ x u τ) (hi : Idem σ) : Idem τ := by
  intro z y hy
  rw [h.new] at hy ⊢
  obtain ⟨w, hw, hy⟩ := (vs_sub _).1 hy
  have key : σ y = .var y ∧ y ≠ x := by
    by_cases e : w = x
    · subst e
      rw [one_at] at hy
      refine ⟨?_, fun e => h.out (e ▸ hy)⟩
      have h9 : y ∈ vs (sub σ u) := by rw [h.fix]; exact hy
      exact hi.on h9
    · rw [one_ne u e] at hy
      simp [vs] at hy
      subst hy
      exact ⟨hi z y hw, e⟩
  show sub (one x u) (σ y) = .var y
  rw [key.1]
  exact one_ne u key.2
theorem Binds.ext {σ τ : Sg} {x : ByteArray} {u : T} (h : Binds σ x u τ) : ExtU σ τ := ⟨one x u, fun n => by rw [h.new]⟩
theorem Binds.sub {σ τ : Sg} {x : ByteArray} {u : T} (h : Binds σ x u τ) (t : T) : sub τ t = Go.Proofs.YtjnlchhikdfifaaGreatDoor.sub (one x u) (Go.Proofs.YtjnlchhikdfifaaGreatDoor.sub σ t) := by rw [sub_sub, h.new]
theorem Binds.same {σ τ : Sg} {x : ByteArray} {u a b : T} (h : Binds σ x u τ) (ha : Go.Proofs.YtjnlchhikdfifaaGreatDoor.sub σ a = .var x) (hb : Go.Proofs.YtjnlchhikdfifaaGreatDoor.sub σ b = u) : Go.Proofs.YtjnlchhikdfifaaGreatDoor.sub τ a = Go.Proofs.YtjnlchhikdfifaaGreatDoor.sub τ b := by
  rw [h.sub, h.sub, ha, hb, one_out h.out]
  exact one_at x u
/-- What one step comes to. -/
inductive StepU (u : Sg → T → T → Option UR) (σ : Sg) (a b : T) : Option UR → Prop where
  | same (x : ByteArray) : sub σ a = .var x → sub σ b = .var x → StepU u σ a b (some (.ok σ))
  | left (x : ByteArray) (τ : Sg) : sub σ a = .var x → Binds σ x (sub σ b) τ → StepU u σ a b (some (.ok τ))
  | leftIn (x : ByteArray) : sub σ a = .var x → x ∈ vs (sub σ b) → (sub σ b).isV = false → StepU u σ a b (some (.bad true))
  | right (x : ByteArray) (τ : Sg) : (sub σ a).isV = false → sub σ b = .var x → Binds σ x (sub σ a) τ → StepU u σ a b (some (.ok τ))
  | rightIn (x : ByteArray) : (sub σ a).isV = false → sub σ b = .var x → x ∈ vs (sub σ a) → StepU u σ a b (some (.bad true))
  | parts : (sub σ a).isV = false → (sub σ b).isV = false → (sub σ a).kind = (sub σ b).kind → (sub σ a).name = (sub σ b).name → (sub σ a).kids.length = (sub σ b).kids.length → StepU u σ a b (uniL u σ (sub σ a).kids (sub σ b).kids)
  | bad : (sub σ a).isV = false → (sub σ b).isV = false → ¬ ((sub σ a).kind = (sub σ b).kind ∧ (sub σ a).name = (sub σ b).name ∧ (sub σ a).kids.length = (sub σ b).kids.length) → StepU u σ a b (some (.bad false))
theorem stepU_is (u : Sg → T → T → Option UR) (σ : Sg) (a b : T) (hi : Idem σ) : StepU u σ a b (stepU u σ (sub σ a) (sub σ b)) := by
  unfold stepU
  by_cases ha : (sub σ a).isV = true
  · have ea := isV_var ha
    have hx : σ (sub σ a).name = .var (sub σ a).name := hi.on (t := a) (by rw [ea]; simp [vs, T.name])
    by_cases hs : (sub σ b).isV = true ∧ (sub σ a).name = (sub σ b).name
    · rw [if_pos ⟨ha, hs.1, hs.2⟩]
      exact .same _ ea ((isV_var hs.1).trans (by rw [hs.2]))
    · rw [if_neg (fun h => hs ⟨h.2.1, h.2.2⟩), if_pos ha]
      unfold bindU
      by_cases ho : (sub σ a).name ∈ vs (sub σ b)
      · rw [if_pos ho]
        refine .leftIn _ ea ho ?_
        cases hb : (sub σ b).isV with
        | false => rfl
        | true =>
          rw [isV_var hb] at ho
          simp [vs] at ho
          exact absurd ⟨hb, ho⟩ hs
      · rw [if_neg ho]
        exact .left _ _ ea ⟨hx, ho, hi.twice b, rfl⟩
  · have ha' : (sub σ a).isV = false := by simpa using ha
    rw [if_neg (fun h => ha h.1), if_neg ha]
    by_cases hb : (sub σ b).isV = true
    · have eb := isV_var hb
      have hx : σ (sub σ b).name = .var (sub σ b).name := hi.on (t := b) (by rw [eb]; simp [vs, T.name])
      rw [if_pos hb]
      unfold bindU
      by_cases ho : (sub σ b).name ∈ vs (sub σ a)
      · rw [if_pos ho]; exact .rightIn _ ha' eb ho
      · rw [if_neg ho]; exact .right _ _ ha' eb ⟨hx, ho, hi.twice a, rfl⟩
    · have hb' : (sub σ b).isV = false := by simpa using hb
      rw [if_neg hb]
      by_cases hh : (sub σ a).kind = (sub σ b).kind ∧ (sub σ a).name = (sub σ b).name ∧ (sub σ a).kids.length = (sub σ b).kids.length
      · rw [if_pos hh]; exact .parts ha' hb' hh.1 hh.2.1 hh.2.2
      · rw [if_neg hh]; exact .bad ha' hb' hh
end Go.Proofs.YtjnlchhikdfifaaGreatDoor
/- Two types as one: what is found makes them one; whatever else does goes by it. -/
namespace Go.Proofs.YtjnlchhikdfifaaGreatDoor

theorem kids_same {σ : Sg} {a b : T} (ha : a.isV = false) (hb : b.isV = false) (hk : a.kind = b.kind) (hn : a.name = b.name) (h : a.kids.map (sub σ) = b.kids.map (sub σ)) : sub σ a = sub σ b := by
  obtain ⟨a1, a2, a3, _⟩ := sub_parts σ a ha
  obtain ⟨b1, b2, b3, _⟩ := sub_parts σ b hb
  exact T.ext3 (a1.trans (hk.trans b1.symm)) (a2.trans (hn.trans b2.symm)) (by rw [a3, b3, h])
/-- What is found makes the two one. -/
def Sound (u : Sg → T → T → Option UR) : Prop := ∀ σ a b τ, u σ a b = some (.ok τ) → Idem σ → Idem τ ∧ ExtU σ τ ∧ sub τ a = sub τ b
theorem uniL_sound {u : Sg → T → T → Option UR} (H : Sound u) : ∀ (l m : List T) (σ τ : Sg), l.length = m.length → uniL u σ l m = some (.ok τ) → Idem σ → Idem τ ∧ ExtU σ τ ∧ l.map (sub τ) = m.map (sub τ)
  | [], [], σ, τ, _, h, hi => by
    simp only [uniL, Option.some.injEq, UR.ok.injEq] at h
    subst h; exact ⟨hi, .refl _, rfl⟩
  | [], b :: m, _, _, hl, _, _ => by simp at hl
  | a :: l, [], _, _, hl, _, _ => by simp at hl
  | a :: l, b :: m, σ, τ, hl, h, hi => by
    rw [uniL] at h
    cases e : u σ a b with
    | none => rw [e] at h; cases h
    | some r =>
      rw [e] at h
      cases r with
      | bad q => cases h
      | ok ρ =>
        obtain ⟨h1, h2, h3⟩ := H σ a b ρ e hi
        obtain ⟨k1, k2, k3⟩ := uniL_sound H l m ρ τ (by simpa using hl) h h1
        refine ⟨k1, h2.trans k2, ?_⟩
        have : sub τ a = sub τ b := by rw [← k2.sub h1 a, ← k2.sub h1 b, h3]
        rw [List.map_cons, List.map_cons, k3, this]
theorem uni_sound : ∀ f, Sound (uni f)
  | 0 => fun σ a b τ h _ => by cases h
  | f + 1 => fun σ a b τ h hi => by
    have ih := uni_sound f
    rw [uni] at h
    have hs := stepU_is (uni f) σ a b hi
    rw [h] at hs
    generalize hr : some (UR.ok τ) = r at hs
    cases hs with
    | same x e1 e2 =>
      simp only [Option.some.injEq, UR.ok.injEq] at hr
      subst hr
      exact ⟨hi, .refl _, e1.trans e2.symm⟩
    | left x ρ e1 hb =>
      simp only [Option.some.injEq, UR.ok.injEq] at hr
      subst hr
      exact ⟨hb.idem hi, hb.ext, hb.same e1 rfl⟩
    | leftIn => cases hr
    | right x ρ _ e2 hb =>
      simp only [Option.some.injEq, UR.ok.injEq] at hr
      subst hr
      exact ⟨hb.idem hi, hb.ext, (hb.same e2 rfl).symm⟩
    | rightIn => cases hr
    | parts h1 h2 h3 h4 h5 =>
      obtain ⟨k1, k2, k3⟩ := uniL_sound ih _ _ σ τ h5 hr.symm hi
      refine ⟨k1, k2, ?_⟩
      rw [← k2.sub hi a, ← k2.sub hi b]
      exact kids_same h1 h2 h3 h4 k3
    | bad => cases hr
/-- Types that go by what was found so far. -/
def Goes (θ σ : Sg) : Prop := ∀ x, sub θ (σ x) = θ x
theorem Goes.sub {θ σ : Sg} (h : Goes θ σ) (t : T) : Go.Proofs.YtjnlchhikdfifaaGreatDoor.sub θ (Go.Proofs.YtjnlchhikdfifaaGreatDoor.sub σ t) = Go.Proofs.YtjnlchhikdfifaaGreatDoor.sub θ t := by
  rw [sub_sub]; exact sub_ext t fun x _ => h x
theorem goes_var (θ : Sg) : Goes θ T.var := fun _ => rfl
theorem Goes.binds {θ σ τ : Sg} {x : ByteArray} {u : T} (h : Goes θ σ) (hb : Binds σ x u τ) (e : θ x = Go.Proofs.YtjnlchhikdfifaaGreatDoor.sub θ u) : Goes θ τ := by
  intro y
  rw [hb.new]
  show Go.Proofs.YtjnlchhikdfifaaGreatDoor.sub θ (Go.Proofs.YtjnlchhikdfifaaGreatDoor.sub (one x u) (σ y)) = θ y
  rw [sub_sub, ← h y]
  refine sub_ext _ fun z _ => ?_
  by_cases hz : z = x
  · subst hz; rw [one_at]; exact e.symm
  · rw [one_ne u hz]; rfl
/-- Whatever makes the two one goes by what is found, and it is found. -/
def Most (u : Sg → T → T → Option UR) : Prop := ∀ σ a b r θ, u σ a b = some r → Idem σ → Goes θ σ → sub θ a = sub θ b → ∃ τ, r = .ok τ ∧ Goes θ τ
theorem uniL_most {u : Sg → T → T → Option UR} (S : Sound u) (H : Most u) (θ : Sg) : ∀ (l m : List T) (σ : Sg) (r : UR), l.length = m.length → uniL u σ l m = some r → Idem σ → Goes θ σ → l.map (sub θ) = m.map (sub θ) → ∃ τ, r = .ok τ ∧ Goes θ τ
  | [], [], σ, r, _, h, _, hg, _ => by
    simp only [uniL, Option.some.injEq] at h
    exact ⟨σ, h.symm, hg⟩
  | [], b :: m, _, _, hl, _, _, _, _ => by simp at hl
  | a :: l, [], _, _, hl, _, _, _, _ => by simp at hl
  | a :: l, b :: m, σ, r, hl, h, hi, hg, he => by
    rw [List.map_cons, List.map_cons] at he
    injection he with he1 he2
    rw [uniL] at h
    cases e : u σ a b with
    | none => rw [e] at h; cases h
    | some q =>
      obtain ⟨ρ, rfl, hg2⟩ := H σ a b q θ e hi hg he1
      rw [e] at h
      exact uniL_most S H θ l m ρ r (by simpa using hl) h (S σ a b ρ e hi).1 hg2 he2
theorem occ_not {θ : Sg} {x : ByteArray} {u : T} (hv : u.isV = false) (h : x ∈ vs u) (e : θ x = sub θ u) : False := by
  have := size_sub_lt (σ := θ) hv h
  rw [e] at this; omega
theorem uni_most : ∀ f, Most (uni f)
  | 0 => fun σ a b r θ h _ _ _ => by cases h
  | f + 1 => fun σ a b r θ h hi hg he => by
    have ih := uni_most f
    have is := uni_sound f
    rw [uni] at h
    have hs := stepU_is (uni f) σ a b hi
    rw [h] at hs
    have ea := hg.sub a
    have eb := hg.sub b
    generalize hr : some r = q at hs
    cases hs with
    | same x e1 e2 => injection hr with hr; exact ⟨σ, hr, hg⟩
    | left x ρ e1 hb =>
      injection hr with hr
      refine ⟨ρ, hr, hg.binds hb ?_⟩
      rw [eb, ← he, ← ea, e1]; rfl
    | leftIn x e1 ho hv =>
      refine (occ_not (θ := θ) hv ho ?_).elim
      rw [eb, ← he, ← ea, e1]; rfl
    | right x ρ _ e2 hb =>
      injection hr with hr
      refine ⟨ρ, hr, hg.binds hb ?_⟩
      rw [ea, he, ← eb, e2]; rfl
    | rightIn x hv e2 ho =>
      refine (occ_not (θ := θ) hv ho ?_).elim
      rw [ea, he, ← eb, e2]; rfl
    | parts h1 h2 h3 h4 h5 =>
      refine uniL_most is ih θ _ _ σ r h5 hr.symm hi hg ?_
      have e9 : sub θ (sub σ a) = sub θ (sub σ b) := by rw [ea, eb, he]
      obtain ⟨_, _, a3, _⟩ := sub_parts θ _ h1
      obtain ⟨_, _, b3, _⟩ := sub_parts θ _ h2
      rw [← a3, ← b3, e9]
    | bad h1 h2 hn =>
      have e9 : sub θ (sub σ a) = sub θ (sub σ b) := by rw [ea, eb, he]
      obtain ⟨a1, a2, a3, _⟩ := sub_parts θ _ h1
      obtain ⟨b1, b2, b3, _⟩ := sub_parts θ _ h2
      refine (hn ⟨?_, ?_, ?_⟩).elim
      · rw [← a1, ← b1, e9]
      · rw [← a2, ← b2, e9]
      · have := congrArg (fun t => t.kids.length) e9
        simp only [a3, b3, List.length_map] at this
        exact this
/-- More fuel finds the same. -/
theorem uniL_more {u v : Sg → T → T → Option UR} (H : ∀ σ a b r, u σ a b = some r → v σ a b = some r) : ∀ (l m : List T) (σ : Sg) (r : UR), uniL u σ l m = some r → uniL v σ l m = some r
  | [], _, σ, r, h => by simpa [uniL] using h
  | _ :: _, [], σ, r, h => by simpa [uniL] using h
  | a :: l, b :: m, σ, r, h => by
    rw [uniL] at h ⊢
    cases e : u σ a b with
    | none => rw [e] at h; cases h
    | some q =>
      rw [e] at h
      rw [H σ a b q e]
      cases q with
      | bad => exact h
      | ok ρ => exact uniL_more H l m ρ r h
theorem uni_succ : ∀ f σ a b r, uni f σ a b = some r → uni (f + 1) σ a b = some r
  | 0, _, _, _, _, h => by cases h
  | f + 1, σ, a, b, r, h => by
    rw [uni] at h ⊢
    unfold stepU at h ⊢
    by_cases c1 : (sub σ a).isV = true ∧ (sub σ b).isV = true ∧ (sub σ a).name = (sub σ b).name
    · rwa [if_pos c1] at h ⊢
    · rw [if_neg c1] at h ⊢
      by_cases c2 : (sub σ a).isV = true
      · rwa [if_pos c2] at h ⊢
      · rw [if_neg c2] at h ⊢
        by_cases c3 : (sub σ b).isV = true
        · rwa [if_pos c3] at h ⊢
        · rw [if_neg c3] at h ⊢
          by_cases c4 : (sub σ a).kind = (sub σ b).kind ∧ (sub σ a).name = (sub σ b).name ∧ (sub σ a).kids.length = (sub σ b).kids.length
          · rw [if_pos c4] at h ⊢
            exact uniL_more (uni_succ f) _ _ _ _ h
          · rwa [if_neg c4] at h ⊢
theorem uni_le {f g : Nat} (hfg : f ≤ g) {σ : Sg} {a b : T} {r : UR} (h : uni f σ a b = some r) : uni g σ a b = some r := by
  obtain ⟨k, rfl⟩ : ∃ k, g = f + k := ⟨g - f, by omega⟩
  clear hfg
  induction k with
  | zero => exact h
  | succ k ih => exact uni_succ _ _ _ _ _ ih
/-- What two types come to, whatever the fuel. -/
def Uni (σ : Sg) (a b : T) (r : UR) : Prop := ∃ f, uni f σ a b = some r
theorem Uni.only {σ : Sg} {a b : T} {r q : UR} (h : Uni σ a b r) (k : Uni σ a b q) : r = q := by
  obtain ⟨f, h⟩ := h; obtain ⟨g, k⟩ := k
  have h1 := uni_le (Nat.le_max_left f g) h
  have k1 := uni_le (Nat.le_max_right f g) k
  rw [h1] at k1; injection k1
theorem Uni.sound {σ τ : Sg} {a b : T} (h : Uni σ a b (.ok τ)) (hi : Idem σ) : Idem τ ∧ ExtU σ τ ∧ sub τ a = sub τ b := by
  obtain ⟨f, h⟩ := h; exact uni_sound f σ a b τ h hi
theorem Uni.most {σ θ : Sg} {a b : T} {r : UR} (h : Uni σ a b r) (hi : Idem σ) (hg : Goes θ σ) (he : sub θ a = sub θ b) : ∃ τ, r = .ok τ ∧ Goes θ τ := by
  obtain ⟨f, h⟩ := h; exact uni_most f σ a b r θ h hi hg he
end Go.Proofs.YtjnlchhikdfifaaGreatDoor
/- Two types as one: it ends; how great what is found can be. -/
namespace Go.Proofs.YtjnlchhikdfifaaGreatDoor

theorem filter_lt {α : Type} {p q : α → Bool} : ∀ {l : List α}, (∀ y ∈ l, q y = true → p y = true) → (∃ x ∈ l, p x = true ∧ q x = false) → (l.filter q).length < (l.filter p).length
  | [], _, h => by obtain ⟨x, hx, _⟩ := h; cases hx
  | a :: l, h, he => by
    have hle : (l.filter q).length ≤ (l.filter p).length := by
      clear he
      induction l with
      | nil => simp
      | cons b l ih =>
        have h1 := ih fun y hy => h y (by rcases List.mem_cons.1 hy with rfl | hy <;> simp [*])
        have hb := h b (by simp)
        rw [List.filter_cons, List.filter_cons]
        cases eq : q b with
        | false => cases ep : p b <;> simp <;> omega
        | true => rw [hb eq]; simp; omega
    obtain ⟨x, hx, hp, hq⟩ := he
    rw [List.filter_cons, List.filter_cons]
    rcases List.mem_cons.1 hx with rfl | hx
    · rw [hp, hq]; simp; omega
    · have := filter_lt (fun y hy => h y (List.mem_cons_of_mem _ hy)) ⟨x, hx, hp, hq⟩
      have ha := h a (by simp)
      cases eq : q a with
      | false => cases ep : p a <;> simp <;> omega
      | true => rw [ha eq]; simp; omega
open Classical in
/-- How many of these variables have no type yet. -/
noncomputable def uns (V : List ByteArray) (σ : Sg) : Nat := (V.filter fun x => decide (σ x = .var x)).length
def VIn (V : List ByteArray) (σ : Sg) : Prop := ∀ x ∈ V, ∀ y ∈ vs (σ x), y ∈ V
def TIn (V : List ByteArray) (t : T) : Prop := ∀ x ∈ vs t, x ∈ V
theorem VIn.sub {V : List ByteArray} {σ : Sg} (h : VIn V σ) {t : T} (ht : TIn V t) : TIn V (Go.Proofs.YtjnlchhikdfifaaGreatDoor.sub σ t) := by
  intro y hy
  obtain ⟨x, hx, hy⟩ := (vs_sub t).1 hy
  exact h x (ht x hx) y hy
theorem vin_var (V : List ByteArray) : VIn V T.var := fun x hx y hy => by simp [vs] at hy; exact hy ▸ hx
theorem TIn.kid {V : List ByteArray} {t k : T} (h : TIn V t) (hv : t.isV = false) (hk : k ∈ t.kids) : TIn V k := fun x hx => h x ((vs_kids hv).2 ⟨k, hk, hx⟩)
theorem Binds.still {σ τ : Sg} {x y : ByteArray} {u : T} (h : Binds σ x u τ) (e : τ y = .var y) : σ y = .var y := by
  rw [h.new] at e
  have e : Go.Proofs.YtjnlchhikdfifaaGreatDoor.sub (one x u) (σ y) = .var y := e
  cases hv : (σ y).isV with
  | false =>
    have := (sub_parts (one x u) _ hv).2.2.2
    rw [e] at this; cases this
  | true =>
    have ez := isV_var hv
    rw [ez] at e
    have e : one x u (σ y).name = .var y := e
    by_cases hz : (σ y).name = x
    · rw [hz, one_at] at e
      have := h.fix
      rw [e] at this
      exact this
    · rw [one_ne u hz] at e
      rw [ez]; exact e
open Classical in
theorem Binds.fewer {V : List ByteArray} {σ τ : Sg} {x : ByteArray} {u : T} (h : Binds σ x u τ) (hx : x ∈ V) : uns V τ < uns V σ := by
  unfold uns
  refine filter_lt (fun y _ hy => decide_eq_true (h.still (of_decide_eq_true hy))) ⟨x, hx, decide_eq_true h.free, decide_eq_false fun e => ?_⟩
  rw [h.new] at e
  have e : Go.Proofs.YtjnlchhikdfifaaGreatDoor.sub (one x u) (σ x) = .var x := e
  rw [h.free] at e
  have e : one x u x = .var x := e
  rw [one_at] at e
  exact h.out (by rw [e]; simp [vs])
theorem Binds.vin {V : List ByteArray} {σ τ : Sg} {x : ByteArray} {u : T} (h : Binds σ x u τ) (hi : VIn V σ) (hu : TIn V u) : VIn V τ := by
  intro z hz y hy
  rw [h.new] at hy
  obtain ⟨w, hw, hy⟩ := (vs_sub _).1 hy
  by_cases e : w = x
  · subst e; rw [one_at] at hy; exact hu y hy
  · rw [one_ne u e] at hy
    simp [vs] at hy
    exact hy ▸ hi z hz w hw
def AfterU (V : List ByteArray) (σ : Sg) (r : UR) : Prop := ∀ τ, r = .ok τ → VIn V τ ∧ (τ = σ ∨ uns V τ < uns V σ)
theorem ends_list (V : List ByteArray) (σ0 : Sg) (h0 : Idem σ0) (v0 : VIn V σ0) : ∀ (l m : List T)
    (_ : ∀ k ∈ l, ∀ k' ∈ m, ∃ r, Uni σ0 k k' r ∧ AfterU V σ0 r)
    (_ : ∀ σ, Idem σ → VIn V σ → uns V σ < uns V σ0 → ∀ k ∈ l, ∀ k' ∈ m, ∃ r, Uni σ k k' r ∧ AfterU V σ r)
    (σ : Sg) (_ : σ = σ0 ∨ Idem σ ∧ VIn V σ ∧ uns V σ < uns V σ0), ∃ f r, uniL (uni f) σ l m = some r ∧ AfterU V σ0 r
  | [], m, _, _, σ, hs => by
    refine ⟨0, .ok σ, by simp [uniL], fun τ e => ?_⟩
    injection e with e
    subst e
    rcases hs with rfl | hs
    · exact ⟨v0, .inl rfl⟩
    · exact ⟨hs.2.1, .inr hs.2.2⟩
  | a :: l, [], _, _, σ, hs => by
    refine ⟨0, .ok σ, by simp [uniL], fun τ e => ?_⟩
    injection e with e
    subst e
    rcases hs with rfl | hs
    · exact ⟨v0, .inl rfl⟩
    · exact ⟨hs.2.1, .inr hs.2.2⟩
  | a :: l, b :: m, H1, H2, σ, hs => by
    have hiv : Idem σ ∧ VIn V σ := by
      rcases hs with rfl | hs
      · exact ⟨h0, v0⟩
      · exact ⟨hs.1, hs.2.1⟩
    obtain ⟨r, ⟨f, hf⟩, hr⟩ : ∃ r, Uni σ a b r ∧ AfterU V σ r := by
      rcases hs with rfl | hs
      · exact H1 a (by simp) b (by simp)
      · exact H2 σ hs.1 hs.2.1 hs.2.2 a (by simp) b (by simp)
    cases r with
    | bad e =>
      refine ⟨f, .bad e, by rw [uniL, hf], fun τ e => by cases e⟩
    | ok ρ =>
      have hρ := hr ρ rfl
      have hs2 : ρ = σ0 ∨ Idem ρ ∧ VIn V ρ ∧ uns V ρ < uns V σ0 := by
        have i1 := (uni_sound f σ a b ρ hf hiv.1).1
        rcases hρ.2 with e | e
        · rw [e]; exact hs
        · refine .inr ⟨i1, hρ.1, ?_⟩
          rcases hs with rfl | hs
          · exact e
          · exact Nat.lt_trans e hs.2.2
      obtain ⟨g, q, hg, hq⟩ := ends_list V σ0 h0 v0 l m (fun k hk k' hk' => H1 k (List.mem_cons_of_mem _ hk) k' (List.mem_cons_of_mem _ hk')) (fun σ a b c k hk k' hk' => H2 σ a b c k (List.mem_cons_of_mem _ hk) k' (List.mem_cons_of_mem _ hk')) ρ hs2
      refine ⟨max f g, q, ?_, hq⟩
      rw [uniL, uni_le (Nat.le_max_left f g) hf]
      exact uniL_more (fun _ _ _ _ h => uni_le (Nat.le_max_right f g) h) l m ρ q hg
theorem uni_ends (V : List ByteArray) (n : Nat) : ∀ (m : Nat) (σ : Sg) (a b : T), Idem σ → VIn V σ → TIn V a → TIn V b → uns V σ ≤ n → tsize (sub σ a) ≤ m → ∃ r, Uni σ a b r ∧ AfterU V σ r := by
  induction n using Nat.strongRecOn with
  | ind n ihn =>
    intro m
    induction m with
    | zero => intro σ a b _ _ _ _ _ h; have := tsize_pos (sub σ a); omega
    | succ m ihm =>
      intro σ a b hi hv ha hb hn hm
      have ta := hv.sub ha
      have tb := hv.sub hb
      have hs : ∀ f, StepU (uni f) σ a b (uni (f + 1) σ a b) := fun f => by rw [uni]; exact stepU_is (uni f) σ a b hi
      have fin : ∀ r, uni 1 σ a b = some r → AfterU V σ r → ∃ r, Uni σ a b r ∧ AfterU V σ r := fun r h k => ⟨r, ⟨1, h⟩, k⟩
      have h1 := hs 0
      generalize hr : uni 1 σ a b = r1 at h1
      have hbd : ∀ {x : ByteArray} {u : T} {τ : Sg}, Binds σ x u τ → TIn V u → x ∈ V → AfterU V σ (.ok τ) := fun {x u τ} hb hu hx τ' e => by
        injection e with e
        subst e
        exact ⟨hb.vin hv hu, .inr (hb.fewer hx)⟩
      cases h1 with
      | same x e1 e2 => exact fin _ hr fun τ e => by injection e with e; exact ⟨e ▸ hv, .inl e.symm⟩
      | left x τ e1 h => exact fin _ hr (hbd h tb (ta x (by rw [e1]; simp [vs])))
      | leftIn => exact fin _ hr fun τ e => by cases e
      | right x τ _ e2 h => exact fin _ hr (hbd h ta (tb x (by rw [e2]; simp [vs])))
      | rightIn => exact fin _ hr fun τ e => by cases e
      | bad => exact fin _ hr fun τ e => by cases e
      | parts p1 p2 p3 p4 p5 =>
        clear hr fin hbd
        obtain ⟨f, r, hf, hA⟩ := ends_list V σ hi hv (sub σ a).kids (sub σ b).kids
          (fun k hk k' hk' => ihm σ k k' hi hv (ta.kid p1 hk) (tb.kid p2 hk') hn (by
            have e : sub σ k = k := sub_id fun y hy => hi.on (t := a) ((vs_kids p1).2 ⟨k, hk, hy⟩)
            rw [e]; have := tsize_kid hk; omega))
          (fun ρ i1 i2 i3 k hk k' hk' => ihn (uns V ρ) (by omega) (tsize (sub ρ k)) ρ k k' i1 i2 (ta.kid p1 hk) (tb.kid p2 hk') (Nat.le_refl _) (Nat.le_refl _))
          σ (.inl rfl)
        refine ⟨r, ⟨f + 1, ?_⟩, hA⟩
        have h2 := hs f
        generalize uni (f + 1) σ a b = q at h2
        cases h2 with
        | parts => exact hf
        | same x e1 e2 => rw [e1] at p1; cases p1
        | left x τ e1 => rw [e1] at p1; cases p1
        | leftIn x e1 => rw [e1] at p1; cases p1
        | right x τ _ e2 => rw [e2] at p2; cases p2
        | rightIn x _ e2 => rw [e2] at p2; cases p2
        | bad _ _ hn => exact (hn ⟨p3, p4, p5⟩).elim
theorem uni_total (V : List ByteArray) (σ : Sg) (a b : T) (hi : Idem σ) (hv : VIn V σ) (ha : TIn V a) (hb : TIn V b) : ∃ r, Uni σ a b r ∧ AfterU V σ r :=
  uni_ends V _ _ σ a b hi hv ha hb (Nat.le_refl _) (Nat.le_refl _)

/-- Each variable's type is made of a part that was there at the start. -/
def FromU (O : T → Prop) (σ : Sg) : Prop := ∀ x, (σ x).isV = true ∨ ∃ t, O t ∧ t.isV = false ∧ σ x = sub σ t
def InstU (O : T → Prop) (σ : Sg) (a : T) : Prop := ∃ o, O o ∧ sub σ a = sub σ o
theorem from_var (O : T → Prop) : FromU O T.var := fun _ => .inl rfl
theorem InstU.of {O : T → Prop} {σ : Sg} {a : T} (h : O a) : InstU O σ a := ⟨a, h, rfl⟩
theorem InstU.ext {O : T → Prop} {σ τ : Sg} {a : T} (h : InstU O σ a) (he : ExtU σ τ) (hi : Idem σ) : InstU O τ a := by
  obtain ⟨o, h, e⟩ := h
  exact ⟨o, h, by rw [← he.sub hi a, e, he.sub hi]⟩
/-- A type that is no variable is what a part at the start, none either, came to. -/
theorem InstU.solid {O : T → Prop} {σ : Sg} {a : T} (h : InstU O σ a) (hF : FromU O σ) (hv : (sub σ a).isV = false) : ∃ o, O o ∧ o.isV = false ∧ sub σ a = sub σ o := by
  obtain ⟨o, h, e⟩ := h
  cases ho : o.isV with
  | false => exact ⟨o, h, ho, e⟩
  | true =>
    have eo := isV_var ho
    rcases hF o.name with h1 | ⟨t, ht, hvt, et⟩
    · have h9 : (sub σ o).isV = true := by rw [eo]; exact h1
      rw [e, h9] at hv; cases hv
    · exact ⟨t, ht, hvt, e.trans (by rw [eo]; exact et)⟩
theorem InstU.kid {O : T → Prop} (hO : ∀ t, O t → ∀ k ∈ t.kids, O k) {σ : Sg} {a k : T} (h : InstU O σ a) (hF : FromU O σ) (hi : Idem σ) (hv : (sub σ a).isV = false) (hk : k ∈ (sub σ a).kids) : InstU O σ k := by
  obtain ⟨o, h, ho, e⟩ := h.solid hF hv
  rw [e, (sub_parts σ o ho).2.2.1] at hk
  obtain ⟨k0, hk0, rfl⟩ := List.mem_map.1 hk
  exact ⟨k0, hO o h k0 hk0, hi.twice k0⟩
theorem Binds.from {O : T → Prop} {σ τ : Sg} {x : ByteArray} {a : T} (h : Binds σ x (Go.Proofs.YtjnlchhikdfifaaGreatDoor.sub σ a) τ) (hF : FromU O σ) (ha : InstU O σ a) : FromU O τ := by
  have hin : ∀ {t : T} {v : T}, t.isV = false → v = Go.Proofs.YtjnlchhikdfifaaGreatDoor.sub σ t → v.isV = false := fun {t v} ht e => by rw [e]; exact (sub_parts σ t ht).2.2.2
  intro y
  have ey : τ y = Go.Proofs.YtjnlchhikdfifaaGreatDoor.sub (one x (Go.Proofs.YtjnlchhikdfifaaGreatDoor.sub σ a)) (σ y) := by rw [h.new]
  rcases hF y with hv | ⟨t, ht, hvt, et⟩
  · have ez := isV_var hv
    by_cases hz : (σ y).name = x
    · have e1 : τ y = Go.Proofs.YtjnlchhikdfifaaGreatDoor.sub σ a := by rw [ey, ez, hz]; exact one_at _ _
      cases hu : (Go.Proofs.YtjnlchhikdfifaaGreatDoor.sub σ a).isV with
      | true => exact .inl (by rw [e1]; exact hu)
      | false =>
        obtain ⟨o, ho, hvo, eo⟩ := ha.solid hF hu
        refine .inr ⟨o, ho, hvo, ?_⟩
        rw [e1, h.sub o, ← eo, one_out h.out]
    · refine .inl ?_
      rw [ey, ez]
      show (one x (Go.Proofs.YtjnlchhikdfifaaGreatDoor.sub σ a) (σ y).name).isV = true
      rw [one_ne _ hz]; rfl
  · refine .inr ⟨t, ht, hvt, ?_⟩
    rw [ey, et, h.sub t]
def FromKeeps (O : T → Prop) (u : Sg → T → T → Option UR) : Prop := ∀ σ a b τ, u σ a b = some (.ok τ) → Idem σ → FromU O σ → InstU O σ a → InstU O σ b → FromU O τ
theorem uniL_from {O : T → Prop} {u : Sg → T → T → Option UR} (S : Sound u) (H : FromKeeps O u) : ∀ (l m : List T) (σ τ : Sg), uniL u σ l m = some (.ok τ) → Idem σ → FromU O σ → (∀ k ∈ l, InstU O σ k) → (∀ k ∈ m, InstU O σ k) → FromU O τ
  | [], m, σ, τ, h, _, hF, _, _ => by
    simp only [uniL, Option.some.injEq, UR.ok.injEq] at h
    subst h; exact hF
  | a :: l, [], σ, τ, h, _, hF, _, _ => by
    simp only [uniL, Option.some.injEq, UR.ok.injEq] at h
    subst h; exact hF
  | a :: l, b :: m, σ, τ, h, hi, hF, hl, hm => by
    rw [uniL] at h
    cases e : u σ a b with
    | none => rw [e] at h; cases h
    | some r =>
      rw [e] at h
      cases r with
      | bad q => cases h
      | ok ρ =>
        obtain ⟨h1, h2, _⟩ := S σ a b ρ e hi
        exact uniL_from S H l m ρ τ h h1 (H σ a b ρ e hi hF (hl a (by simp)) (hm b (by simp)))
          (fun k hk => (hl k (List.mem_cons_of_mem _ hk)).ext h2 hi) (fun k hk => (hm k (List.mem_cons_of_mem _ hk)).ext h2 hi)
theorem uni_from {O : T → Prop} (hO : ∀ t, O t → ∀ k ∈ t.kids, O k) : ∀ f, FromKeeps O (uni f)
  | 0 => fun σ a b τ h _ _ _ _ => by cases h
  | f + 1 => fun σ a b τ h hi hF ha hb => by
    have ih := uni_from hO f
    rw [uni] at h
    have hs := stepU_is (uni f) σ a b hi
    rw [h] at hs
    generalize hr : some (UR.ok τ) = r at hs
    cases hs with
    | same x e1 e2 =>
      simp only [Option.some.injEq, UR.ok.injEq] at hr
      subst hr
      exact hF
    | left x ρ e1 h =>
      simp only [Option.some.injEq, UR.ok.injEq] at hr
      subst hr
      exact h.from hF hb
    | leftIn => cases hr
    | right x ρ _ e2 h =>
      simp only [Option.some.injEq, UR.ok.injEq] at hr
      subst hr
      exact h.from hF ha
    | rightIn => cases hr
    | parts h1 h2 h3 h4 h5 => exact uniL_from (uni_sound f) ih _ _ σ τ hr.symm hi hF (fun k hk => ha.kid hO hF hi h1 hk) (fun k hk => hb.kid hO hF hi h2 hk)
    | bad => cases hr
theorem Uni.from {O : T → Prop} (hO : ∀ t, O t → ∀ k ∈ t.kids, O k) {σ τ : Sg} {a b : T} (h : Uni σ a b (.ok τ)) (hi : Idem σ) (hF : FromU O σ) (ha : InstU O σ a) (hb : InstU O σ b) : FromU O τ := by
  obtain ⟨f, h⟩ := h; exact uni_from hO f σ a b τ h hi hF ha hb
/-- A type's size with types for its variables. -/
theorem size_subs {σ : Sg} {M : Nat} (hM : 1 ≤ M) : ∀ t, (∀ y ∈ vs t, tsize (σ y) ≤ M) → tsize (sub σ t) ≤ tsize t * M := by
  refine T.kidsInd fun t ih h => ?_
  cases hv : t.isV with
  | true =>
    rw [isV_var hv] at h ⊢
    have := h t.name (by simp [vs])
    simpa [sub, tsize] using this
  | false =>
    obtain ⟨_, _, a3, _⟩ := sub_parts σ t hv
    rw [tsize_eq, a3, tsize_eq t]
    have key : ∀ l : List T, (∀ k ∈ l, tsize (sub σ k) ≤ tsize k * M) → tsizes (l.map (sub σ)) ≤ tsizes l * M := by
      intro l
      induction l with
      | nil => intro _; simp [tsizes]
      | cons a l ih2 =>
        intro hl
        have h1 := hl a (by simp)
        have h2 := ih2 fun k hk => hl k (List.mem_cons_of_mem _ hk)
        rw [List.map_cons, tsizes, tsizes, Nat.add_mul]; omega
    have := key t.kids fun k hk => ih k hk fun y hy => h y ((vs_kids hv).2 ⟨k, hk, hy⟩)
    rw [Nat.add_mul]; omega
noncomputable def rankU (V : List ByteArray) (σ : Sg) (x : ByteArray) : Nat := (V.filter fun y => decide (tsize (σ y) < tsize (σ x))).length
theorem rank_lt {V : List ByteArray} {σ : Sg} {x y : ByteArray} (hy : y ∈ V) (h : tsize (σ y) < tsize (σ x)) : rankU V σ y < rankU V σ x := by
  unfold rankU
  refine filter_lt (fun z _ hz => decide_eq_true (Nat.lt_trans (of_decide_eq_true hz) h)) ⟨y, hy, decide_eq_true h, decide_eq_false (Nat.lt_irrefl _)⟩
theorem rank_in {V : List ByteArray} {σ : Sg} {x : ByteArray} (hx : x ∈ V) : rankU V σ x < V.length := by
  have := filter_lt (l := V) (p := fun _ => true) (q := fun y => decide (tsize (σ y) < tsize (σ x))) (fun _ _ _ => rfl) ⟨x, hx, rfl, decide_eq_false (Nat.lt_irrefl _)⟩
  have e : V.filter (fun _ => true) = V := by simp
  rw [e] at this
  exact this
/-- How great a variable's type can be. -/
theorem from_size {O : T → Prop} {V : List ByteArray} {σ : Sg} {N : Nat} (hF : FromU O σ) (hV : ∀ t, O t → t.isV = false → TIn V t) (hN : ∀ t, O t → tsize t ≤ N) (h1 : 1 ≤ N) : ∀ n x, tsize (σ x) ≤ n → tsize (σ x) ≤ N ^ (rankU V σ x + 1) := by
  intro n
  induction n with
  | zero => intro x h; have := tsize_pos (σ x); omega
  | succ n ih =>
    intro x hx
    have hp : 1 ≤ N ^ (rankU V σ x + 1) := Nat.one_le_pow _ _ h1
    rcases hF x with hv | ⟨t, ht, hvt, et⟩
    · rw [isV_var hv]; simpa [tsize] using hp
    · have hp' : 1 ≤ N ^ rankU V σ x := Nat.one_le_pow _ _ h1
      have := size_subs (σ := σ) hp' t fun y hy => by
        have hlt : tsize (σ y) < tsize (σ x) := by rw [et]; exact size_sub_lt hvt hy
        have h2 := ih y (by omega)
        have h3 := rank_lt (hV t ht hvt y hy) hlt
        exact Nat.le_trans h2 (Nat.pow_le_pow_right h1 h3)
      rw [et] at hx ⊢
      rw [← et] at hx ⊢
      have h9 := Nat.mul_le_mul_right (N ^ rankU V σ x) (hN t ht)
      rw [Nat.pow_succ, Nat.mul_comm, et]
      exact Nat.le_trans this h9
theorem from_le {O : T → Prop} {V : List ByteArray} {σ : Sg} {N : Nat} (hF : FromU O σ) (hV : ∀ t, O t → t.isV = false → TIn V t) (hN : ∀ t, O t → tsize t ≤ N) (h1 : 1 ≤ N) {x : ByteArray} (hx : x ∈ V) : tsize (σ x) ≤ N ^ V.length :=
  Nat.le_trans (from_size hF hV hN h1 _ x (Nat.le_refl _)) (Nat.pow_le_pow_right h1 (rank_in hx))
theorem from_le' {O : T → Prop} {V : List ByteArray} {σ : Sg} {N : Nat} (hF : FromU O σ) (hV : ∀ t, O t → t.isV = false → TIn V t) (hN : ∀ t, O t → tsize t ≤ N) (h1 : 1 ≤ N) (x : ByteArray) : tsize (σ x) ≤ N ^ (V.length + 1) := by
  refine Nat.le_trans (from_size hF hV hN h1 _ x (Nat.le_refl _)) (Nat.pow_le_pow_right h1 ?_)
  have := List.length_filter_le (fun y => decide (tsize (σ y) < tsize (σ x))) V
  unfold rankU; omega
end Go.Proofs.YtjnlchhikdfifaaGreatDoor
/- Two types as one: what is found as a list of pairs. -/
namespace Go.Proofs.YtjnlchhikdfifaaGreatDoor

theorem app_sub (d : List PR) : ∀ t, app d t = sub (fun n => ty n d) t := by
  refine T.kidsInd fun t ih => ?_
  cases hv : t.isV with
  | true => rw [isV_var hv]; rfl
  | false =>
    have hn : ∀ n, t ≠ .var n := fun n e => by rw [e] at hv; cases hv
    obtain ⟨a1, a2, a3⟩ := app_parts d t hn
    obtain ⟨b1, b2, b3, _⟩ := sub_parts (fun n => ty n d) t hv
    refine T.ext3 (a1.trans b1.symm) (a2.trans b2.symm) ?_
    rw [a3, b3]
    exact List.map_congr_left ih
theorem ty_none {n : ByteArray} {d : List PR} (h : lk n d = none) : ty n d = .var n := by unfold ty; rw [h]; rfl
theorem ty_some {n : ByteArray} {d : List PR} {x : PR} (h : lk n d = some x) : ty n d = x.t := by unfold ty; rw [h]; rfl
theorem ty_one (n : ByteArray) (p : PR) : ty n [p] = one p.n p.t n := by
  by_cases h : n = p.n
  · subst h
    rw [one_at]
    exact ty_some (by rw [lk_cons, if_pos rfl])
  · rw [one_ne _ h]
    exact ty_none (by rw [lk_cons, if_neg (fun e => h e.symm)]; rfl)
/-- The document's Then. -/
noncomputable def thenR (s u : List PR) : List PR := (s.map fun x => { x with t := app u x.t }) ++ u.filter fun y => (lk y.n s).isNone
theorem lk_filter {n : ByteArray} {s : List PR} (h : lk n s = none) : ∀ u : List PR, lk n (u.filter fun y => (lk y.n s).isNone) = lk n u
  | [] => rfl
  | y :: u => by
    rw [List.filter_cons]
    by_cases e : y.n = n
    · rw [if_pos (by rw [e, h]; rfl), lk_cons, lk_cons, if_pos e, if_pos e]
    · rw [lk_cons n y u, if_neg e]
      split
      · rw [lk_cons, if_neg e]; exact lk_filter h u
      · exact lk_filter h u
theorem thenR_ty (s u : List PR) (n : ByteArray) : ty n (thenR s u) = app u (ty n s) := by
  unfold thenR
  rw [ty_append, lk_map (app u)]
  cases h : lk n s with
  | some x =>
    rw [if_pos (by rfl), ty_some h]
    exact ty_some (x := { x with t := app u x.t }) (by rw [lk_map (app u), h]; rfl)
  | none =>
    rw [if_neg (by simp), ty_none h]
    show ty n _ = ty n u
    unfold ty; rw [lk_filter h]
/-- Pairs that say what was found. -/
def IsSg (d : List PR) (σ : Sg) : Prop := ∀ n, ty n d = σ n
theorem IsSg.app {d : List PR} {σ : Sg} (h : IsSg d σ) (t : T) : app d t = sub σ t := by rw [app_sub]; exact sub_ext t fun n _ => h n
theorem isSg_nil : IsSg [] T.var := fun _ => rfl
theorem IsSg.bind {d e : List PR} {σ : Sg} {p : PR} (h : IsSg d σ) (he : ∀ n, ty n e = Go.Proofs.YtjnlchhikdfifaaGreatDoor.app [p] (ty n d)) : IsSg e (fun n => sub (one p.n p.t) (σ n)) := by
  intro n
  rw [he, app_sub, h n]
  exact sub_ext _ fun m _ => ty_one m p
end Go.Proofs.YtjnlchhikdfifaaGreatDoor
/- types.Has; the document's Size; texts in rows: Place, Has, SameTexts. -/
namespace Go.Proofs.YtjnlchhikdfifaaGreatDoor
open Go.RowKit
attribute [local go_sem] Oper.semAt_some

/-- Whether a name is free in a type. -/
noncomputable def hasN (m : ByteArray) (t : T) (r : Bool) : Bool := (eqB t.kind 1 && eqB t.name m) || (!(eqB t.kind 4 && eqB t.name m) && r)
mutual
noncomputable def hasT (m : ByteArray) : T → Bool
  | .var n => eqB n m
  | .con _ l => hasTs m l
  | .fn a b => hasT m a || hasT m b
  | .all n a => !eqB n m && hasT m a
noncomputable def hasTs (m : ByteArray) : List T → Bool
  | [] => false
  | a :: l => hasT m a || hasTs m l
end
theorem hasT_eq (m : ByteArray) (t : T) : hasT m t = hasN m t (hasTs m t.kids) := by
  have e1 : ∀ (a b : Int), eqB a b = decide (a = b) := fun a b => by simp [eqB]
  cases t <;> simp [hasT, hasN, T.kind, T.name, T.kids, hasTs, e1]
theorem hasTs_take (m : ByteArray) (l : List T) (i : Nat) (h : i < l.length) : hasTs m (l.drop i) = (hasT m l[i] || hasTs m (l.drop (i + 1))) := by
  rw [List.drop_eq_getElem_cons h, hasTs]
open Classical in
mutual
theorem fv_mem (t : T) (bd out : List ByteArray) (n : ByteArray) : n ∈ fv bd out t ↔ n ∈ out ∨ (¬ n ∈ bd ∧ hasT n t = true) := by
  cases t with
  | var x =>
    rw [fv, hasT, eqB_iff]
    by_cases h : x ∈ bd ∨ x ∈ out
    · rw [if_pos h]
      constructor
      · exact .inl
      · rintro (h1 | ⟨h1, rfl⟩)
        · exact h1
        · exact h.resolve_left h1
    · rw [if_neg h]
      simp only [List.mem_append, List.mem_singleton]
      constructor
      · rintro (h1 | rfl)
        · exact .inl h1
        · exact .inr ⟨fun e => h (.inl e), rfl⟩
      · rintro (h1 | ⟨_, rfl⟩)
        · exact .inl h1
        · exact .inr rfl
  | con x l => rw [fv, hasT]; exact fvs_mem l bd out n
  | fn a b =>
    rw [fv, hasT, fv_mem b, fv_mem a, Bool.or_eq_true]
    constructor
    · rintro ((h | ⟨h1, h2⟩) | ⟨h1, h2⟩)
      · exact .inl h
      · exact .inr ⟨h1, .inl h2⟩
      · exact .inr ⟨h1, .inr h2⟩
    · rintro (h | ⟨h1, h2 | h2⟩)
      · exact .inl (.inl h)
      · exact .inl (.inr ⟨h1, h2⟩)
      · exact .inr ⟨h1, h2⟩
  | all x a =>
    rw [fv, hasT, fv_mem a, Bool.and_eq_true, Bool.not_eq_true']
    have : eqB x n = false ↔ ¬ n = x := by
      constructor
      · rintro h rfl; rw [eqB_true rfl] at h; cases h
      · intro h; exact eqB_false fun e => h e.symm
    rw [this, List.mem_cons]
    constructor
    · rintro (h | ⟨h1, h2⟩)
      · exact .inl h
      · exact .inr ⟨fun e => h1 (.inr e), fun e => h1 (.inl e), h2⟩
    · rintro (h | ⟨h1, h2, h3⟩)
      · exact .inl h
      · exact .inr ⟨fun e => e.elim h2 h1, h3⟩
theorem fvs_mem (l : List T) (bd out : List ByteArray) (n : ByteArray) : n ∈ fvs bd out l ↔ n ∈ out ∨ (¬ n ∈ bd ∧ hasTs n l = true) := by
  cases l with
  | nil => simp [fvs, hasTs]
  | cons a l =>
    rw [fvs, hasTs, fvs_mem l, fv_mem a, Bool.or_eq_true]
    constructor
    · rintro ((h | ⟨h1, h2⟩) | ⟨h1, h2⟩)
      · exact .inl h
      · exact .inr ⟨h1, .inl h2⟩
      · exact .inr ⟨h1, .inr h2⟩
    · rintro (h | ⟨h1, h2 | h2⟩)
      · exact .inl (.inl h)
      · exact .inl (.inr ⟨h1, h2⟩)
      · exact .inr ⟨h1, h2⟩
end
mutual
theorem has_good (t : T) (h : T.Good t) (n : ByteArray) (hn : ¬ n.data.toList ∈ T.vnames) : hasT n t = false := by
  cases t with
  | var x =>
    rw [hasT]
    exact eqB_false fun e => hn (by rw [T.Good] at h; rw [← e]; exact h)
  | con x l => rw [T.Good] at h; rw [hasT]; exact hass_good l h.2 n hn
  | fn a b => rw [T.Good] at h; rw [hasT, has_good a h.1 n hn, has_good b h.2 n hn]; rfl
  | all x a => rw [T.Good] at h; exact h.elim
theorem hass_good (l : List T) (h : T.Goods l) (n : ByteArray) (hn : ¬ n.data.toList ∈ T.vnames) : hasTs n l = false := by
  cases l with
  | nil => rw [hasTs]
  | cons a l => rw [T.Goods] at h; rw [hasTs, has_good a h.1 n hn, hass_good l h.2 n hn]; rfl
end

end Go.Proofs.YtjnlchhikdfifaaGreatDoor
/- Two types as one: of the types that the statements make. -/
namespace Go.Proofs.YtjnlchhikdfifaaGreatDoor

theorem br_ge2 (b : Bool) (s : List UInt8) : s.length ≤ (T.br b s).length := by
  unfold T.br; split <;> simp; omega
theorem vname_len {x : List UInt8} (h : x ∈ T.vnames) : 1 ≤ x.length := by
  simp [T.vnames] at h; rcases h with rfl | rfl | rfl <;> simp
theorem cname_len {x : List UInt8} (h : x ∈ T.cnames) : 1 ≤ x.length := by
  simp [T.cnames] at h; rcases h with rfl | rfl | rfl | rfl <;> simp
mutual
theorem tsize2_text (t : T) (h : T.Good t) : 2 * tsize t ≤ (T.text t).length + 1 := by
  cases t with
  | var n =>
    simp only [T.Good] at h
    have := vname_len h
    simp only [tsize, T.text]; omega
  | con n l =>
    simp only [T.Good] at h
    have h1 := cname_len h.1
    have h2 := tsizes2_texts l h.2
    simp only [tsize, T.text, List.length_append]; omega
  | fn a b =>
    simp only [T.Good] at h
    have h1 := tsize2_text a h.1
    have h2 := tsize2_text b h.2
    have h3 := br_ge2 a.arrow (T.text a)
    simp only [tsize, T.text, List.length_append, List.length_cons, List.length_nil]; omega
  | all n a => simp only [T.Good] at h
theorem tsizes2_texts (l : List T) (h : T.Goods l) : 2 * tsizes l ≤ (T.texts l).length := by
  cases l with
  | nil => simp [tsizes]
  | cons a r =>
    simp only [T.Goods] at h
    have h1 := tsize2_text a h.1
    have h2 := tsizes2_texts r h.2
    have h3 := br_ge2 a.wide (T.text a)
    simp only [tsizes, T.texts, List.length_append, List.length_cons, List.length_nil]; omega
end
theorem goods_mem {k : T} : ∀ {l : List T}, T.Goods l → k ∈ l → T.Good k
  | [], _, h => by cases h
  | a :: l, h, hk => by
    simp only [T.Goods] at h
    rcases List.mem_cons.1 hk with rfl | hk
    · exact h.1
    · exact goods_mem h.2 hk
theorem good_kid {t k : T} (h : T.Good t) (hk : k ∈ t.kids) : T.Good k := by
  cases t with
  | var n => cases hk
  | con n l => simp only [T.Good] at h; exact goods_mem h.2 hk
  | fn a b =>
    simp only [T.Good] at h
    simp [T.kids] at hk
    rcases hk with rfl | rfl
    · exact h.1
    · exact h.2
  | all n a => simp only [T.Good] at h
/-- The three variables of types that are made. -/
def V3 : List ByteArray := [⟨#[97]⟩, ⟨#[98]⟩, ⟨#[99]⟩]
theorem vname_in {n : ByteArray} (h : n.data.toList ∈ T.vnames) : n ∈ V3 := by
  have e : ∀ l : List UInt8, n.data.toList = l → n = ⟨l.toArray⟩ := fun l e => by
    cases n with | mk d => cases d; simp at e; rw [e]
  simp [T.vnames] at h
  rcases h with h | h | h
  · rw [e _ h]; simp [V3]
  · rw [e _ h]; simp [V3]
  · rw [e _ h]; simp [V3]
theorem good_in : ∀ t, T.Good t → TIn V3 t := by
  refine T.kidsInd fun t ih h x hx => ?_
  cases hv : t.isV with
  | true =>
    rw [isV_var hv] at h hx
    simp [vs] at hx
    subst hx
    exact vname_in (by simpa [T.Good] using h)
  | false =>
    obtain ⟨k, hk, hx⟩ := (vs_kids hv).1 hx
    exact ih k hk (good_kid h hk) x hx
/-- No variable is bound. -/
def NoAll (t : T) : Prop := ∀ x, hasT x t = true ↔ x ∈ vs t
theorem hasTs_any (x : ByteArray) : ∀ l : List T, hasTs x l = true ↔ ∃ k ∈ l, hasT x k = true
  | [] => by simp [hasTs]
  | a :: l => by rw [hasTs, Bool.or_eq_true, hasTs_any x l]; simp
theorem noAll_of {t : T} (h4 : t.kind ≠ 4) (hk : ∀ k ∈ t.kids, NoAll k) : NoAll t := by
  intro x
  cases t with
  | var n => rw [hasT, eqB_iff]; simp [vs, eq_comm]
  | con n l =>
    rw [hasT, hasTs_any, vs_kids rfl]
    exact ⟨fun ⟨k, h1, h2⟩ => ⟨k, h1, (hk k h1 x).1 h2⟩, fun ⟨k, h1, h2⟩ => ⟨k, h1, (hk k h1 x).2 h2⟩⟩
  | fn a b =>
    rw [hasT, Bool.or_eq_true, hk a (by simp [T.kids]) x, hk b (by simp [T.kids]) x]
    simp [vs]
  | all n a => exact absurd rfl h4
/-- No kind but the three, anywhere. -/
inductive Plain3 : T → Prop
  | mk (t : T) : t.kind ≠ 4 → (∀ k ∈ t.kids, Plain3 k) → Plain3 t
theorem Plain3.no {t : T} (h : Plain3 t) : NoAll t := by
  induction h with
  | mk t h _ ih => exact noAll_of h ih
theorem Plain3.kid {t k : T} (h : Plain3 t) (hk : k ∈ t.kids) : Plain3 k := by cases h with | mk _ _ h => exact h k hk
theorem Plain3.four {t : T} (h : Plain3 t) : t.kind ≠ 4 := by cases h; assumption
theorem good_plain : ∀ t, T.Good t → Plain3 t := by
  refine T.kidsInd fun t ih h => .mk t ?_ fun k hk => ih k hk (good_kid h hk)
  cases t with
  | all n a => simp only [T.Good] at h
  | _ => simp [T.kind]
theorem plain_sub {σ : Sg} : ∀ t, Plain3 t → (∀ y ∈ vs t, Plain3 (σ y)) → Plain3 (sub σ t) := by
  refine T.kidsInd fun t ih h hs => ?_
  cases hv : t.isV with
  | true =>
    rw [isV_var hv] at hs ⊢
    exact hs _ (by simp [vs])
  | false =>
    obtain ⟨a1, _, a3, _⟩ := sub_parts σ t hv
    refine .mk _ (by rw [a1]; exact h.four) fun k hk => ?_
    rw [a3] at hk
    obtain ⟨k0, hk0, rfl⟩ := List.mem_map.1 hk
    exact ih k0 hk0 (h.kid hk0) fun y hy => hs y ((vs_kids hv).2 ⟨k0, hk0, hy⟩)
theorem from_plain {O : T → Prop} {σ : Sg} (hF : FromU O σ) (hP : ∀ t, O t → Plain3 t) : ∀ n x, tsize (σ x) ≤ n → Plain3 (σ x) := by
  intro n
  induction n with
  | zero => intro x h; have := tsize_pos (σ x); omega
  | succ n ih =>
    intro x hx
    rcases hF x with hv | ⟨t, ht, hvt, et⟩
    · rw [isV_var hv]; exact .mk _ (by simp [T.kind]) fun k hk => by cases hk
    · rw [et]
      refine plain_sub t (hP t ht) fun y hy => ih y ?_
      have hlt : tsize (σ y) < tsize (σ x) := by rw [et]; exact size_sub_lt hvt hy
      omega
theorem size_sub_ge {σ : Sg} : ∀ t, tsize t ≤ tsize (sub σ t) := by
  refine T.kidsInd fun t ih => ?_
  cases hv : t.isV with
  | true => rw [isV_var hv]; exact tsize_pos _
  | false =>
    obtain ⟨_, _, a3, _⟩ := sub_parts σ t hv
    rw [tsize_eq t, tsize_eq (sub σ t), a3]
    have key : ∀ l : List T, (∀ k ∈ l, tsize k ≤ tsize (sub σ k)) → tsizes l ≤ tsizes (l.map (sub σ)) := by
      intro l
      induction l with
      | nil => intro _; simp [tsizes]
      | cons a l ih2 =>
        intro hl
        have h1 := hl a (by simp)
        have h2 := ih2 fun k hk => hl k (List.mem_cons_of_mem _ hk)
        rw [List.map_cons, tsizes, tsizes]; omega
    have := key t.kids ih
    omega
/-- Types that a statement starts with: closed under parts; of so many variables; never too great. -/
structure USet where
  V : List ByteArray
  O : T → Prop
  kid : ∀ t, O t → ∀ k ∈ t.kids, O k
  tin : ∀ t, O t → TIn V t
  var : ∀ x ∈ V, O (.var x)
  plain : ∀ t, O t → Plain3 t
  G : Sg → Prop
  P : T → T → Prop
  start : G T.var
  kids : ∀ a b, P a b → a.isV = false → b.isV = false → a.kids.length = b.kids.length → ∀ i (h1 : i < a.kids.length) (h2 : i < b.kids.length), P a.kids[i] b.kids[i]
  «at» : ∀ σ a b, G σ → P a b → P (sub σ a) (sub σ b)
  fin : ∀ f σ a b τ, Idem σ → G σ → P a b → uni f σ a b = some (.ok τ) → G τ
  le : ∀ σ, FromU O σ → G σ → ∀ t, O t → tsize (sub σ t) ≤ 900000000
  nm : ∀ x ∈ V, x.size ≤ 1000
  sz : ∀ t, O t → tsize t ≤ 400000
/-- Types of these variables, of at most so many parts. -/
def usetV (V : List ByteArray) (N : Nat) (h1 : 1 ≤ N) (h : N * N ^ V.length ≤ 900000000) (hn : ∀ x ∈ V, x.size ≤ 1000) (hN : N ≤ 400000) : USet where
  V := V
  O := fun t => TIn V t ∧ Plain3 t ∧ tsize t ≤ N
  kid := fun t ht k hk => ⟨fun x hx => by
      cases hv : t.isV with
      | true => rw [isV_var hv] at hk; cases hk
      | false => exact ht.1.kid hv hk x hx, ht.2.1.kid hk, by have := tsize_kid hk; have := ht.2.2; omega⟩
  tin := fun t ht => ht.1
  var := fun x hx => ⟨fun y hy => by simp [vs] at hy; exact hy ▸ hx, .mk _ (by simp [T.kind]) (fun k hk => by cases hk), by simpa [tsize] using h1⟩
  plain := fun t ht => ht.2.1
  G := fun _ => True
  P := fun _ _ => True
  start := trivial
  kids := fun _ _ _ _ _ _ _ _ _ => trivial
  «at» := fun _ _ _ _ _ => trivial
  fin := fun _ _ _ _ _ _ _ _ _ => trivial
  le := fun σ hF _ t ht => by
    have h0 : ∀ x ∈ V, tsize (σ x) ≤ N ^ V.length := fun x hx => from_le (V := V) (N := N) hF (fun t ht _ => ht.1) (fun t ht => ht.2.2) h1 hx
    have h2 := size_subs (σ := σ) (M := N ^ V.length) (Nat.one_le_pow _ _ h1) t fun y hy => h0 y (ht.1 y hy)
    have h3 := Nat.mul_le_mul_right (N ^ V.length) ht.2.2
    omega
  nm := hn
  sz := fun t ht => Nat.le_trans ht.2.2 hN
theorem v3_small : ∀ x ∈ V3, x.size ≤ 1000 := by
  intro x hx
  simp [V3] at hx
  rcases hx with rfl | rfl | rfl <;> decide
def uset3 : USet := usetV V3 107 (by decide) (by decide) v3_small (by decide)
theorem good_o3 {t : T} (h : T.Good t) (hs : tsize t ≤ 107) : uset3.O t := ⟨good_in t h, good_plain t h, hs⟩
/-- What was found so far, of types that a statement makes. -/
structure UInv (S : USet) (σ : Sg) : Prop where
  idem : Idem σ
  src : FromU S.O σ
  vin : VIn S.V σ
  good : S.G σ
theorem uinv_var (S : USet) : UInv S T.var := ⟨idem_var, from_var _, vin_var _, S.start⟩
/-- A type within what was made, with what was found so far in it. -/
def UArg (S : USet) (σ : Sg) (a : T) : Prop := InstU S.O σ a
theorem UInv.var_le {S : USet} {σ : Sg} (h : UInv S σ) {x : ByteArray} (hx : x ∈ S.V) : tsize (σ x) ≤ 900000000 := S.le σ h.src h.good (.var x) (S.var x hx)
theorem UInv.plain {S : USet} {σ : Sg} (h : UInv S σ) {t : T} (ht : S.O t) : Plain3 (sub σ t) :=
  plain_sub t (S.plain t ht) fun y _ => from_plain h.src S.plain _ y (Nat.le_refl _)
theorem UArg.le {S : USet} {σ : Sg} {a : T} (h : UArg S σ a) (hi : UInv S σ) : tsize (sub σ a) ≤ 900000000 ∧ tsize a ≤ 900000000 := by
  obtain ⟨o, ho, e⟩ := h
  have h1 := S.le σ hi.src hi.good o ho
  rw [← e] at h1
  exact ⟨h1, Nat.le_trans (size_sub_ge a) h1⟩
theorem UArg.plain {S : USet} {σ : Sg} {a : T} (h : UArg S σ a) (hi : UInv S σ) : Plain3 (sub σ a) := by
  obtain ⟨o, ho, e⟩ := h
  rw [e]; exact hi.plain ho
theorem UArg.tin {S : USet} {σ : Sg} {a : T} (h : UArg S σ a) (hi : UInv S σ) : TIn S.V (sub σ a) := by
  obtain ⟨o, ho, e⟩ := h
  rw [e]; exact hi.vin.sub (S.tin o ho)
theorem UArg.ext {S : USet} {σ τ : Sg} {a : T} (h : UArg S σ a) (hi : UInv S σ) (he : ExtU σ τ) : UArg S τ a := InstU.ext h he hi.idem
theorem UArg.kid {S : USet} {σ : Sg} {a k : T} (h : UArg S σ a) (hi : UInv S σ) (hv : (sub σ a).isV = false) (hk : k ∈ (sub σ a).kids) : UArg S σ k := InstU.kid S.kid h hi.src hi.idem hv hk
theorem UArg.of {S : USet} {σ : Sg} {a : T} (h : S.O a) : UArg S σ a := ⟨a, h, rfl⟩
/-- Pairs that say what was found, none twice, of these variables. -/
structure PInv (S : USet) (d : List PR) (σ : Sg) : Prop where
  is : IsSg d σ
  each : ∀ x ∈ d, x.n ∈ S.V ∧ x.t = σ x.n
  few : d.length + uns S.V σ ≤ S.V.length
theorem pinv_nil (S : USet) : PInv S [] T.var := ⟨isSg_nil, (fun _ h => nomatch h), by have := List.length_filter_le (fun x => @decide (T.var x = .var x) (Classical.propDecidable _)) S.V; simpa [uns] using this⟩
theorem PInv.len {S : USet} {d : List PR} {σ : Sg} (h : PInv S d σ) : d.length ≤ S.V.length := by have := h.few; omega
theorem PInv.sized {S : USet} {d : List PR} {σ : Sg} (h : PInv S d σ) (hi : UInv S σ) : ∀ x ∈ d, tsize x.t ≤ 900000000 := fun x hx => by
  rw [(h.each x hx).2]; exact hi.var_le (h.each x hx).1
/-- One more pair, as the document's Then and as the program's make it. -/
theorem PInv.bind {S : USet} {d q : List PR} {σ τ : Sg} {p : PR} (h : PInv S d σ) (hb : Binds σ p.n p.t τ) (hx : p.n ∈ S.V) (hq : ∀ y ∈ q, (∃ x ∈ d, y.n = x.n ∧ y.t = app [p] x.t) ∨ y.n = p.n ∧ y.t = p.t) (hl : q.length ≤ d.length + 1) (ht : ∀ n, ty n q = app [p] (ty n d)) : PInv S q τ := by
  have ha : ∀ t, app [p] t = sub (one p.n p.t) t := fun t => by rw [app_sub]; exact sub_ext t fun n _ => ty_one n p
  refine ⟨fun n => ?_, fun y hy => ?_, ?_⟩
  · rw [ht, h.is n, ha, hb.new]
  · rcases hq y hy with ⟨x, hx, e1, e2⟩ | ⟨e1, e2⟩
    · rw [e1, e2, (h.each x hx).2, ha, hb.new]
      exact ⟨(h.each x hx).1, rfl⟩
    · rw [e1, e2, hb.new]
      refine ⟨hx, ?_⟩
      show p.t = sub (one p.n p.t) (σ p.n)
      rw [hb.free]
      exact (one_at p.n p.t).symm
  · have h1 := hb.fewer (V := S.V) hx
    have h2 := h.few
    omega
end Go.Proofs.YtjnlchhikdfifaaGreatDoor
/- The document's Then. -/
namespace Go.Proofs.YtjnlchhikdfifaaGreatDoor
open Go.RowKit Go.Sort Go.Lib
attribute [local go_sem] Oper.semAt_some

theorem isV_kind {t : T} : t.isV = true ↔ t.kind = 1 := by cases t <;> simp [T.isV, T.kind]
theorem not_var {t : T} (h : t.isV = false) : ¬ t.kind = 1 := fun e => by rw [isV_kind.2 e] at h; cases h
/-- A pair without its place. -/
def nt (x : PR) : ByteArray × T := (x.n, x.t)
theorem ty_nt (n : ByteArray) : ∀ {l m : List PR}, l.map nt = m.map nt → ty n l = ty n m
  | [], [], _ => rfl
  | [], _ :: _, h => by cases h
  | _ :: _, [], h => by cases h
  | x :: l, y :: m, h => by
    rw [List.map_cons, List.map_cons] at h
    injection h with h1 h2
    have e := ty_nt n h2
    simp only [nt, Prod.mk.injEq] at h1
    unfold ty at e ⊢
    rw [lk_cons, lk_cons, h1.1]
    by_cases c : y.n = n
    · rw [if_pos c, if_pos c]; simp [h1.2]
    · rw [if_neg c, if_neg c]; exact e
theorem own_below4 {W W' : World} {base : Nat} {e : TypeId} {size : Nat} {v : Value} {n : Nat} {xs : List Value} (h : W.ownsRow base e size v n xs) (hb : Below W.heap.size W W') : W'.ownsRow base e size v n xs :=
  row_kept h fun k _ _ hk => (hb.block k (Array.getElem?_eq_some_iff.1 hk).1).trans hk
/-- The pairs that were made so far. -/
def TnI (w : World) (vo : Value) (ls : List PR) (want : List (ByteArray × T)) (X : World) : Prop :=
  ls.map nt = want ∧ (X.ownsRow w.heap.size 53 4 vo ls.length (cellsP ls) ∧ (ls = [] → vo = .slice none 0 0)) ∧ Typ ls X ∧ Below w.heap.size w X
theorem TnI.start (w : World) (o : World) (hb : Below w.heap.size w o) : TnI w (.slice none 0 0) [] [] o := ⟨rfl, ⟨World.ownsRow_nil _ _ _ _, fun _ => rfl⟩, (fun _ h => nomatch h), hb⟩
theorem TnI.below {w : World} {vo : Value} {ls : List PR} {want : List (ByteArray × T)} {X Y : World} (h : TnI w vo ls want X) (hb : Below X.heap.size X Y) : TnI w vo ls want Y :=
  ⟨h.1, ⟨own_below4 h.2.1.1 hb, h.2.1.2⟩, h.2.2.1.keep (KeepT.of_below hb), h.2.2.2.trans (hb.mono h.2.2.2.size)⟩
theorem TnI.next {w : World} {vo v' : Value} {ls : List PR} {want : List (ByteArray × T)} {x : PR} {X W : World} {o : Obj} (h : TnI w vo ls want X) (hx : TysAt X (.slice x.a x.t.kids.length x.c) x.t.kids) (ho : W.ownsRow w.heap.size 53 4 v' (ls.length + 1) (cellsP ls ++ encP x))
    (hg : (X.alloc o).grownBy W vo.ownBlock) : TnI w v' (ls ++ [x]) (want ++ [nt x]) W := by
  have hsz := h.2.2.2.size
  have hk : KeepT X W := (keepT_alloc X _).trans (KeepT.grown hg (h.2.1.1.alloc _) (by decide))
  refine ⟨by rw [List.map_append, h.1]; rfl, ⟨?_, fun e => by simp at e⟩, fun y hy => ?_, (h.2.2.2.alloc hsz _).grown hg (by simp; omega) fun j hj => (h.2.1.1.lt j hj).1⟩
  · rw [cellsP_snoc, List.length_append]; exact ho
  · rcases List.mem_append.1 hy with hy | hy
    · exact (h.2.2.1 y hy).keep hk
    · obtain rfl := List.mem_singleton.1 hy
      exact hx.keep hk
theorem take_none {d e : List PR} {i : Nat} (h : i < e.length) (hn : lk (e.getD i noP).n d = none) : ((e.take (i + 1)).filter fun y => (lk y.n d).isNone).map nt = ((e.take i).filter fun y => (lk y.n d).isNone).map nt ++ [nt (e.getD i noP)] := by
  have e1 : e.getD i noP = e[i] := by simp [List.getD, h]
  rw [e1] at hn ⊢
  rw [List.take_succ_eq_append_getElem h, List.filter_append, List.map_append]
  simp [hn]
theorem take_some {d e : List PR} {i : Nat} {x : PR} (h : i < e.length) (hn : lk (e.getD i noP).n d = some x) : ((e.take (i + 1)).filter fun y => (lk y.n d).isNone).map nt = ((e.take i).filter fun y => (lk y.n d).isNone).map nt := by
  have e1 : e.getD i noP = e[i] := by simp [List.getD, h]
  rw [e1] at hn
  rw [List.take_succ_eq_append_getElem h, List.filter_append, List.map_append]
  simp [hn]
theorem thenR_nt (d e : List PR) : (thenR d e).map nt = (d.map fun x => (x.n, app e x.t)) ++ (e.filter fun y => (lk y.n d).isNone).map nt := by
  unfold thenR
  rw [List.map_append, List.map_map]; rfl
end Go.Proofs.YtjnlchhikdfifaaGreatDoor
/- The document's bind. -/
namespace Go.Proofs.YtjnlchhikdfifaaGreatDoor
open Go.RowKit Go.Sort Go.Lib
attribute [local go_sem] Oper.semAt_some

theorem givenG_one {T : TypeId} {w : World} {b : Nat} (x : PR) (h : w.heap[b]? = some (.cells #[.string x.n, .int .i64 x.t.kind, .string x.t.name, .slice x.a x.t.kids.length x.c] T (0, 0))) : GivenG T (.slice (some ⟨b, 0, none⟩) 1 1) [x] w := by
  refine .inr ⟨by simp, b, 1, rfl, _, h, by simp, fun i hi => ?_⟩
  obtain rfl : i = 0 := by simpa using hi
  exact ⟨rfl, rfl, rfl, rfl⟩
theorem vars_in {t : T} (h : NoAll t) (n : ByteArray) : inB (fvs [] [] [t]) n = true ↔ n ∈ vs t := by
  rw [inB_iff, fvs_mem, ← h n]
  simp [hasTs]
theorem fv_lens : (∀ t : T, ∀ bd out : List ByteArray, (fv bd out t).length ≤ out.length + tsize t) ∧ ∀ l : List T, ∀ bd out : List ByteArray, (fvs bd out l).length ≤ out.length + tsizes l := by
  have key : ∀ t : T, ∀ bd out : List ByteArray, (fv bd out t).length ≤ out.length + tsize t := by
    refine T.kidsInd fun t ih bd out => ?_
    have hl : ∀ l : List T, (∀ k ∈ l, k ∈ t.kids) → ∀ bd out : List ByteArray, (fvs bd out l).length ≤ out.length + tsizes l := by
      intro l
      induction l with
      | nil => intro _ bd out; simp [fvs, tsizes]
      | cons a l ih2 =>
        intro hk bd out
        have h1 := ih a (hk a (by simp)) bd out
        have h2 := ih2 (fun k h => hk k (List.mem_cons_of_mem _ h)) bd (fv bd out a)
        rw [fvs, tsizes]; omega
    cases t with
    | var n => rw [fv]; split <;> simp [tsize]
    | con n l => rw [fv, tsize]; have := hl l (fun k h => h) bd out; omega
    | fn a b =>
      have h1 := ih a (by simp [T.kids]) bd out
      have h2 := ih b (by simp [T.kids]) bd (fv bd out a)
      rw [fv, tsize]; omega
    | all n a =>
      have h1 := ih a (by simp [T.kids]) (n :: bd) out
      rw [fv, tsize]; omega
  refine ⟨key, fun l => ?_⟩
  induction l with
  | nil => intro bd out; simp [fvs, tsizes]
  | cons a l ih =>
    intro bd out
    have h1 := key a bd out
    have h2 := ih bd (fv bd out a)
    rw [fvs, tsizes]; omega
end Go.Proofs.YtjnlchhikdfifaaGreatDoor
/- The document's unify. -/
namespace Go.Proofs.YtjnlchhikdfifaaGreatDoor
open Go.RowKit Go.Sort Go.Lib
attribute [local go_sem] Oper.semAt_some

/-- What the document's unify tells. -/
def RRes (S : USet) (r : UR) (E : Ending) (w' : World) : Prop :=
  match r with
  | .ok τ => ∃ v q, E = .returned (.tuple #[v, .int .i64 0]) ∧ GivenG 53 v q w' ∧ Typ q w' ∧ PInv S q τ
  | .bad e => E = .returned (.tuple #[.slice none 0 0, .int .i64 (if e then 107 else 106)])
/-- Apply, called where two boxes lie at the end. -/
theorem rapp_at {d : List PR} {t u : T} {sv : Value} {a : Option Addr} {c : Nat} {w : World} (hl : d.length < 1000000) (hd : GivenG 53 sv d w) (td : Typ d w) (ht : TysAt w (.slice a t.kids.length c) t.kids) (hz : tsize t ≤ 1000000000) (e : app d t = u) (V : World) (hb : Below w.heap.size w V) (hs : w.heap.size + 2 ≤ V.heap.size) :
    Calls Tryz.prog 27 #[sv, .agg #[.int .i64 t.kind, .string t.name, .slice a t.kids.length c]] V fun E w' => (∃ za zc, E = .returned (.agg #[.int .i64 u.kind, .string u.name, .slice za u.kids.length zc]) ∧ TyIn (fun k => k ≠ w.heap.size ∧ k ≠ w.heap.size + 1) w' u (.slice za u.kids.length zc)) ∧ Below V.heap.size V w' := by
  subst e
  have lt : ∀ (k : Nat) (cs : Array Value) (fz : Nat × Nat), w.heap[k]? = some (.cells cs 31 fz) → k < w.heap.size := fun k _ _ hk => (Array.getElem?_eq_some_iff.1 hk).1
  have kp : ∀ {t : T} {v : Value}, TyIn (fun k => k < w.heap.size) w t v → TyIn (fun k => k < w.heap.size) V t v := fun h => h.keep fun k _ _ hk hh => (hb.block k hk).trans hh
  refine (rapp_ok d hl t w.heap.size sv a c V ⟨hd.below hb, fun x hx => kp ((td x hx).inside lt), by omega⟩ (kp (ht.inside lt)) hz).mono ?_
  rintro E w' ⟨⟨za, zc, rfl, hin⟩, hb'⟩
  exact ⟨⟨za, zc, rfl, hin.mono fun k hk => by rcases hk with hk | hk <;> omega⟩, hb'⟩
theorem TyIn.far {B : Nat} {w W : World} {t : T} {v : Value} (h : TyIn (fun k => k ≠ B ∧ k ≠ B + 1) w t v) (hk : ∀ k, k ≠ B → k ≠ B + 1 → W.heap[k]? = w.heap[k]?) : TyIn (fun k => k ≠ B ∧ k ≠ B + 1) W t v := h.keep fun k _ _ hh hx => (hk k hh.1 hh.2).trans hx
/-- Both types applied, in their boxes. -/
def UBox (w : World) (u v : T) (ku kv : Int) (ua va : Option Addr) (uc vc : Nat) (W : World) : Prop :=
  (W.heap[w.heap.size]? = some (.cells #[.int .i64 ku, .string u.name, .slice ua u.kids.length uc] 31 (0, 0)) ∧ W.heap[w.heap.size + 1]? = some (.cells #[.int .i64 kv, .string v.name, .slice va v.kids.length vc] 31 (0, 0))) ∧
  (TysAt W (.slice ua u.kids.length uc) u.kids ∧ TysAt W (.slice va v.kids.length vc) v.kids) ∧ Below w.heap.size w W
theorem UBox.below {w : World} {u v : T} {ku kv : Int} {ua va : Option Addr} {uc vc : Nat} {W Y : World} (h : UBox w u v ku kv ua va uc vc W) (hb : Below W.heap.size W Y) : UBox w u v ku kv ua va uc vc Y := by
  obtain ⟨⟨h1, h2⟩, ⟨h3, h4⟩, h5⟩ := h
  have l1 := (Array.getElem?_eq_some_iff.1 h1).1
  have l2 := (Array.getElem?_eq_some_iff.1 h2).1
  exact ⟨⟨(hb.block _ l1).trans h1, (hb.block _ l2).trans h2⟩, ⟨h3.keep (KeepT.of_below hb), h4.keep (KeepT.of_below hb)⟩, h5.trans (hb.mono h5.size)⟩
theorem first_store {w w2 : World} {x y z : Value} {o : Obj} (hb : Below ((w.alloc (.cells #[x, y, z] 31)).alloc o).heap.size ((w.alloc (.cells #[x, y, z] 31)).alloc o) w2) :
    w2.heap[w.heap.size]? = some (.cells #[x, y, z] 31 (0, 0)) ∧ w2.heap[w.heap.size + 1]? = some o ∧ Below w.heap.size w w2 := by
  refine ⟨(hb.block _ (by simp; omega)).trans ((Below.heap_alloc _ _ _ (by simp)).trans (alloc_new w _)), (hb.block _ (by simp)).trans (new_two w _ _), (below_two w _ _).trans (hb.mono (by simp; omega))⟩
theorem ubox_of {w X w3 : World} {u v : T} {ku kv : Int} {ua va : Option Addr} {uc vc : Nat} {x y z : Value} (hA : X.heap[w.heap.size]? = some (.cells #[.int .i64 ku, .string u.name, .slice ua u.kids.length uc] 31 (0, 0))) (hB : X.heap[w.heap.size + 1]? = some (.cells #[x, y, z] 31 (0, 0)))
    (hu : TyIn (fun k => k ≠ w.heap.size ∧ k ≠ w.heap.size + 1) X u (.slice ua u.kids.length uc)) (hbX : Below w.heap.size w X) (hb : Below X.heap.size X w3) (hv : TyIn (fun k => k ≠ w.heap.size ∧ k ≠ w.heap.size + 1) w3 v (.slice va v.kids.length vc)) :
    UBox w u v ku kv ua va uc vc (((w3.setCell ⟨w.heap.size + 1, 0, none⟩ (.int .i64 kv)).setCell ⟨w.heap.size + 1, 1, none⟩ (.string v.name)).setCell ⟨w.heap.size + 1, 2, none⟩ (.slice va v.kids.length vc)) := by
  have lA := (Array.getElem?_eq_some_iff.1 hA).1
  have lB := (Array.getElem?_eq_some_iff.1 hB).1
  have hot : ∀ k, k ≠ w.heap.size + 1 → (((w3.setCell ⟨w.heap.size + 1, 0, none⟩ (.int .i64 kv)).setCell ⟨w.heap.size + 1, 1, none⟩ (.string v.name)).setCell ⟨w.heap.size + 1, 2, none⟩ (.slice va v.kids.length vc)).heap[k]? = w3.heap[k]? := fun k hk => set3_others _ _ _ hk
  refine ⟨⟨(hot _ (by omega)).trans ((hb.block _ lA).trans hA), set3_block ((hb.block _ lB).trans hB) _ _ _⟩, ⟨?_, ?_⟩, below_set3 (hbX.trans (hb.mono hbX.size)) (Nat.le_succ _) _ _ _⟩
  · exact ((hu.keep fun k _ _ _ hh => (hb.block k (Array.getElem?_eq_some_iff.1 hh).1).trans hh).far fun k _ h2 => hot k h2).tys
  · exact (hv.far fun k _ h2 => hot k h2).tys
/-- What one step is, by the two types' kinds and names. -/
inductive UCase (S : USet) (f : Nat) (σ : Sg) (a b u v : T) (r : UR) : Prop where
  | same : u.kind = 1 → v.kind = 1 → u.name = v.name → r = .ok σ → UCase S f σ a b u v r
  | left (τ : Sg) : u.kind = 1 → u.name ∉ vs v → (v.kind = 1 → u.name ≠ v.name) → Binds σ u.name v τ → u.name ∈ S.V → r = .ok τ → UCase S f σ a b u v r
  | leftIn : u.kind = 1 → u.name ∈ vs v → ¬ v.kind = 1 → r = .bad true → UCase S f σ a b u v r
  | right (τ : Sg) : ¬ u.kind = 1 → v.kind = 1 → v.name ∉ vs u → Binds σ v.name u τ → v.name ∈ S.V → r = .ok τ → UCase S f σ a b u v r
  | rightIn : ¬ u.kind = 1 → v.kind = 1 → v.name ∈ vs u → r = .bad true → UCase S f σ a b u v r
  | parts : ¬ u.kind = 1 → ¬ v.kind = 1 → u.kind = v.kind → u.name = v.name → u.kids.length = v.kids.length → uniL (uni f) σ u.kids v.kids = some r → (∀ k ∈ u.kids, UArg S σ k) → (∀ k ∈ v.kids, UArg S σ k) → (∀ i (h1 : i < u.kids.length) (h2 : i < v.kids.length), S.P u.kids[i] v.kids[i]) → UCase S f σ a b u v r
  | kinds : ¬ u.kind = 1 → ¬ v.kind = 1 → ¬ u.kind = v.kind → r = .bad false → UCase S f σ a b u v r
  | names : ¬ u.kind = 1 → ¬ v.kind = 1 → u.kind = v.kind → ¬ u.name = v.name → r = .bad false → UCase S f σ a b u v r
  | many : ¬ u.kind = 1 → ¬ v.kind = 1 → u.kind = v.kind → u.name = v.name → ¬ u.kids.length = v.kids.length → r = .bad false → UCase S f σ a b u v r
theorem ucase {S : USet} {f : Nat} {σ : Sg} {a b : T} {r : UR} (h : uni (f + 1) σ a b = some r) (hi : UInv S σ) (ha : UArg S σ a) (hb : UArg S σ b) (hP : S.P a b) : UCase S f σ a b (sub σ a) (sub σ b) r := by
  rw [uni] at h
  have hs := stepU_is (uni f) σ a b hi.idem
  rw [h] at hs
  have ta := ha.tin hi
  have tb := hb.tin hi
  generalize hr : some r = q at hs
  cases hs with
  | same x e1 e2 =>
    injection hr with hr
    rw [e1, e2]; exact .same rfl rfl rfl hr
  | left x τ e1 h1 =>
    injection hr with hr
    have hx : x ∈ S.V := ta x (by rw [e1]; simp [vs])
    have h2 := h1.out
    rw [e1]
    refine .left τ rfl h2 (fun hk e => h2 ?_) h1 hx hr
    rw [isV_var (isV_kind.2 hk), ← e]; simp [vs, T.name]
  | leftIn x e1 h1 h2 =>
    injection hr with hr
    rw [e1]; exact .leftIn rfl h1 (not_var h2) hr
  | right x τ h1 e2 h2 =>
    injection hr with hr
    have hx : x ∈ S.V := tb x (by rw [e2]; simp [vs])
    rw [e2]; exact .right τ (not_var h1) rfl h2.out h2 hx hr
  | rightIn x h1 e2 h2 =>
    injection hr with hr
    rw [e2]; exact .rightIn (not_var h1) rfl h2 hr
  | parts h1 h2 h3 h4 h5 => exact .parts (not_var h1) (not_var h2) h3 h4 h5 hr.symm (fun k hk => ha.kid hi h1 hk) (fun k hk => hb.kid hi h2 hk) (fun i k1 k2 => S.kids _ _ (S.at σ a b hi.good hP) h1 h2 h5 i k1 k2)
  | bad h1 h2 hn =>
    injection hr with hr
    by_cases c1 : (sub σ a).kind = (sub σ b).kind
    · by_cases c2 : (sub σ a).name = (sub σ b).name
      · exact .many (not_var h1) (not_var h2) c1 c2 (fun c3 => hn ⟨c1, c2, c3⟩) hr
      · exact .names (not_var h1) (not_var h2) c1 c2 hr
    · exact .kinds (not_var h1) (not_var h2) c1 hr
theorem pinv_then {S : USet} {d q : List PR} {σ τ : Sg} {p : PR} (h : PInv S d σ) (hb : Binds σ p.n p.t τ) (hx : p.n ∈ S.V) (g : q.map nt = (thenR d [p]).map nt) : PInv S q τ := by
  refine h.bind hb hx (fun y hy => ?_) ?_ fun n => (ty_nt n g).trans (thenR_ty d [p] n)
  · have h1 : nt y ∈ (thenR d [p]).map nt := by rw [← g]; exact List.mem_map.2 ⟨y, hy, rfl⟩
    obtain ⟨z, hz, e⟩ := List.mem_map.1 h1
    simp only [nt, Prod.mk.injEq] at e
    rcases List.mem_append.1 hz with hz | hz
    · obtain ⟨x, hx', rfl⟩ := List.mem_map.1 hz
      exact .inl ⟨x, hx', e.1.symm, e.2.symm⟩
    · obtain rfl := List.mem_singleton.1 (List.mem_filter.1 hz).1
      exact .inr ⟨e.1.symm, e.2.symm⟩
  · have h1 := congrArg List.length g
    simp only [List.length_map] at h1
    rw [h1, thenR, List.length_append, List.length_map]
    have := List.length_filter_le (fun y => (lk y.n d).isNone) [p]
    simp only [List.length_singleton] at this
    omega
theorem uinv_next {S : USet} {f : Nat} {ρ τ : Sg} {a b : T} (h : uni f ρ a b = some (.ok τ)) (hi : UInv S ρ) (ha : UArg S ρ a) (hb : UArg S ρ b) (hP : S.P a b) : UInv S τ ∧ ExtU ρ τ := by
  obtain ⟨h1, h2, _⟩ := uni_sound f ρ a b τ h hi.idem
  refine ⟨⟨h1, uni_from S.kid f ρ a b τ h hi.idem hi.src ha hb, ?_, S.fin f ρ a b τ hi.idem hi.good hP h⟩, h2⟩
  have e : uni f ρ (sub ρ a) (sub ρ b) = some (.ok τ) := by
    cases f with
    | zero => cases h
    | succ f => rw [uni, hi.idem.twice a, hi.idem.twice b]; rw [uni] at h; exact h
  obtain ⟨r, hr, hA⟩ := uni_total S.V ρ (sub ρ a) (sub ρ b) hi.idem hi.vin (ha.tin hi) (hb.tin hi)
  have := hr.only ⟨f, e⟩
  exact (hA τ this).1
/-- Where the loop over the parts stands. -/
def LpI (S : USet) (f : Nat) (σ : Sg) (u v : T) (r : UR) (i : Nat) (vs vb : Value) (X : World) : Prop :=
  (∃ ρ q, vb = .int .i64 0 ∧ (UInv S ρ ∧ ExtU σ ρ ∧ PInv S q ρ ∧ uniL (uni f) ρ (u.kids.drop i) (v.kids.drop i) = some r) ∧ GivenG 53 vs q X ∧ Typ q X) ∨ (∃ e : Bool, vb = .int .i64 (if e then 107 else 106) ∧ vs = .slice none 0 0 ∧ r = .bad e)
theorem lp_next {S : USet} {f : Nat} {σ ρ : Sg} {u v : T} {r r1 : UR} {i : Nat} (h1 : i < u.kids.length) (h2 : i < v.kids.length) (hl : uniL (uni f) ρ (u.kids.drop i) (v.kids.drop i) = some r) (e : uni f ρ u.kids[i] v.kids[i] = some r1) (hi : UInv S ρ) (he : ExtU σ ρ) (ha : UArg S ρ u.kids[i]) (hb : UArg S ρ v.kids[i]) (hP : S.P u.kids[i] v.kids[i]) (E : Ending) (X : World) (hr : RRes S r1 E X) :
    ∃ vs vb, E = .returned (.tuple #[vs, vb]) ∧ LpI S f σ u v r (i + 1) vs vb X := by
  rw [List.drop_eq_getElem_cons h1, List.drop_eq_getElem_cons h2, uniL, e] at hl
  cases r1 with
  | bad q =>
    simp only [Option.some.injEq] at hl
    exact ⟨_, _, hr, .inr ⟨q, rfl, rfl, hl.symm⟩⟩
  | ok τ =>
    obtain ⟨v4, q4, rfl, g1, g2, g3⟩ := hr
    obtain ⟨k1, k2⟩ := uinv_next e hi ha hb hP
    exact ⟨_, _, rfl, .inl ⟨τ, q4, rfl, ⟨k1, he.trans k2, g3, hl⟩, g1, g2⟩⟩
theorem lp_some {f : Nat} {ρ : Sg} {u v : T} {r : UR} {i : Nat} (h1 : i < u.kids.length) (h2 : i < v.kids.length) (hl : uniL (uni f) ρ (u.kids.drop i) (v.kids.drop i) = some r) : ∃ r1, uni f ρ u.kids[i] v.kids[i] = some r1 := by
  rw [List.drop_eq_getElem_cons h1, List.drop_eq_getElem_cons h2, uniL] at hl
  cases e : uni f ρ u.kids[i] v.kids[i] with
  | none => rw [e] at hl; cases hl
  | some r1 => exact ⟨r1, rfl⟩

end Go.Proofs.YtjnlchhikdfifaaGreatDoor
/- The document's UnifyAll. -/
namespace Go.Proofs.YtjnlchhikdfifaaGreatDoor
open Go.RowKit Go.Sort Go.Lib
attribute [local go_sem] Oper.semAt_some

/-- Pair by pair. -/
inductive UniAll : Sg → List (T × T) → UR → Prop
  | nil (σ : Sg) : UniAll σ [] (.ok σ)
  | cons (σ τ : Sg) (a b : T) (l : List (T × T)) (r : UR) : Uni σ a b (.ok τ) → UniAll τ l r → UniAll σ ((a, b) :: l) r
  | bad (σ : Sg) (a b : T) (l : List (T × T)) (e : Bool) : Uni σ a b (.bad e) → UniAll σ ((a, b) :: l) (.bad e)
theorem Uni.inv {S : USet} {ρ τ : Sg} {a b : T} (h : Uni ρ a b (.ok τ)) (hi : UInv S ρ) (ha : UArg S ρ a) (hb : UArg S ρ b) (hP : S.P a b) : UInv S τ ∧ ExtU ρ τ := by
  obtain ⟨f, h⟩ := h; exact uinv_next h hi ha hb hP
/-- Pairs of types lie in a row. -/
def P2At (v : Value) (l : List (Tl × Tl)) (w : World) : Prop := ∃ a c, v = .slice a l.length c ∧ l.length ≤ c ∧ ∀ i (hi : i < l.length), ∃ g, a = some ⟨g, 0, none⟩ ∧ g < w.heap.size ∧
  ((w.cell? ⟨g, i * 6, none⟩ = some (.int .i64 l[i].1.1.kind) ∧ w.cell? ⟨g, i * 6 + 1, none⟩ = some (.string l[i].1.1.name) ∧ w.cell? ⟨g, i * 6 + 2, none⟩ = some (.slice l[i].1.2.1 l[i].1.1.kids.length l[i].1.2.2)) ∧
    (w.cell? ⟨g, i * 6 + 3, none⟩ = some (.int .i64 l[i].2.1.kind) ∧ w.cell? ⟨g, i * 6 + 3 + 1, none⟩ = some (.string l[i].2.1.name) ∧ w.cell? ⟨g, i * 6 + 3 + 2, none⟩ = some (.slice l[i].2.2.1 l[i].2.1.kids.length l[i].2.2.2))) ∧
  TysAt w (.slice l[i].1.2.1 l[i].1.1.kids.length l[i].1.2.2) l[i].1.1.kids ∧ TysAt w (.slice l[i].2.2.1 l[i].2.1.kids.length l[i].2.2.2) l[i].2.1.kids
theorem P2At.below {v : Value} {l : List (Tl × Tl)} {w W : World} (h : P2At v l w) (hb : Below w.heap.size w W) : P2At v l W := by
  obtain ⟨a, c, rfl, hc, hr⟩ := h
  refine ⟨a, c, rfl, hc, fun i hi => ?_⟩
  obtain ⟨g, e, hg, ⟨⟨x0, x1, x2⟩, y0, y1, y2⟩, k1, k2⟩ := hr i hi
  have f1 := fun o => hb.cell (p := ⟨g, o, none⟩) hg
  refine ⟨g, e, Nat.lt_of_lt_of_le hg hb.size, ⟨⟨?_, ?_, ?_⟩, ?_, ?_, ?_⟩, k1.keep (KeepT.of_below hb), k2.keep (KeepT.of_below hb)⟩ <;> rw [f1] <;> assumption
def plainP (l : List (Tl × Tl)) : List (T × T) := l.map fun x => (x.1.1, x.2.1)
/-- Where the loop over the pairs stands. -/
def LaI (S : USet) (l : List (Tl × Tl)) (r : UR) (i : Nat) (vs vb : Value) (X : World) : Prop :=
  (∃ ρ q, vb = .int .i64 0 ∧ (UInv S ρ ∧ PInv S q ρ ∧ UniAll ρ (plainP (l.drop i)) r) ∧ GivenG 53 vs q X ∧ Typ q X) ∨ (∃ e : Bool, vb = .int .i64 (if e then 107 else 106) ∧ vs = .slice none 0 0 ∧ r = .bad e)
theorem la_next {S : USet} {ρ : Sg} {l : List (Tl × Tl)} {r : UR} {i : Nat} (h1 : i < l.length) (hl : UniAll ρ (plainP (l.drop i)) r) (hi : UInv S ρ) (ha : S.O l[i].1.1) (hb : S.O l[i].2.1) (hP : S.P l[i].1.1 l[i].2.1) :
    ∃ r1, Uni ρ l[i].1.1 l[i].2.1 r1 ∧ ∀ E X, RRes S r1 E X → ∃ vs vb, E = .returned (.tuple #[vs, vb]) ∧ LaI S l r (i + 1) vs vb X := by
  rw [List.drop_eq_getElem_cons h1] at hl
  generalize e : plainP (l[i] :: l.drop (i + 1)) = k at hl
  cases hl with
  | nil => cases e
  | cons _ τ a b l' _ hu hr =>
    simp only [plainP, List.map_cons, List.cons.injEq, Prod.mk.injEq] at e
    obtain ⟨⟨rfl, rfl⟩, rfl⟩ := e
    refine ⟨_, hu, fun E X h => ?_⟩
    obtain ⟨v4, q4, rfl, g1, g2, g3⟩ := h
    exact ⟨_, _, rfl, .inl ⟨τ, q4, rfl, ⟨(hu.inv hi (.of ha) (.of hb) hP).1, g3, hr⟩, g1, g2⟩⟩
  | bad _ a b l' e' hu =>
    simp only [plainP, List.map_cons, List.cons.injEq, Prod.mk.injEq] at e
    obtain ⟨⟨rfl, rfl⟩, rfl⟩ := e
    exact ⟨_, hu, fun E X h => ⟨_, _, h, .inr ⟨e', rfl, rfl, rfl⟩⟩⟩
end Go.Proofs.YtjnlchhikdfifaaGreatDoor
/- An error without a place, seen av plain data: paideiasee.Is. -/
namespace Go.Proofs.YtjnlchhikdfifaaGreatDoor
open Go.RowKit
attribute [local go_sem] Oper.semAt_some

def noA : Addr := ⟨0, 0, none⟩
def faultV (code : Int) (placed : Bool) (pos : Int) : Value := .agg #[.int .i64 code, .bool placed, .int .i64 pos]
theorem faultBox {w W : World} {o : Obj} (hb : Below (w.alloc o).heap.size (w.alloc o) W) : W.heap[w.heap.size]? = some o := (hb.block _ (by simp)).trans (by show (w.heap.push _)[_]? = _; simp)
end Go.Proofs.YtjnlchhikdfifaaGreatDoor
/- What the program's Unify is to tell, and what the laws of unification share. -/
namespace Go.Proofs.YtjnlchhikdfifaaGreatDoor
open Go.RowKit Go.Sort Go.Lib
attribute [local go_sem] Oper.semAt_some

/-- Apply of what was found. -/
theorem pap_ret {S : USet} {τ : Sg} {l : List PR} {t u : T} {sv : Value} {a : Option Addr} {c : Nat} {w : World} (hs : SubAt sv l w) (hp : PInv S l τ) (hi : UInv S τ) (hl : S.V.length < 10) (ht : tsize t ≤ 900000000) (e : sub τ t = u) (hT : TysAt w (.slice a t.kids.length c) t.kids) :
    Calls Tryz.prog 41 #[.agg #[sv], .agg #[.int .i64 t.kind, .string t.name, .slice a t.kids.length c]] w fun E Y => (∃ za zc, E = .returned (.agg #[.int .i64 u.kind, .string u.name, .slice za u.kids.length zc]) ∧ TysAt Y (.slice za u.kids.length zc) u.kids) ∧ Below w.heap.size w Y := by
  have e2 : app l t = u := (hp.is.app t).trans e
  subst e2
  have hlen := hp.len
  refine (apply_any (d := l) (t := t) (by omega) (fun x hx => by have := hp.sized hi x hx; omega) (by omega) hs hT).mono ?_
  rintro E Y ⟨⟨za, zc, rfl, hin⟩, hb⟩
  exact ⟨⟨za, zc, rfl, hin.tys⟩, hb⟩
theorem fits_le {t : T} (h : tsize t ≤ 900000000) : Fits t := by
  refine T.by_kids (P := fun t => tsize t ≤ 900000000 → Fits t) (fun t H h => ?_) t h
  refine .mk t ?_ fun k hk => H k hk (by have := tsize_kid hk; omega)
  have h1 := len_sizes' t.kids
  rw [tsize_eq] at h; omega
theorem sameU_ret {t : T} (ht : tsize t ≤ 900000000) {a b : Option Addr} {c d : Nat} {w : World} (h : TysAt w (.slice a t.kids.length c) t.kids) (h' : TysAt w (.slice b t.kids.length d) t.kids) :
    Calls Tryz.prog 35 #[.agg #[.int .i64 t.kind, .string t.name, .slice a t.kids.length c], .agg #[.int .i64 t.kind, .string t.name, .slice b t.kids.length d]] w fun e Y => e = .returned (.bool true) ∧ Below w.heap.size w Y := by
  have := sameType_any (t := t) (t' := t) (w := w) (fits_le ht) h h'
  rwa [eqB_true rfl] at this
/-- What two types come to, and that it goes on. -/
theorem uni_start (S : USet) {a b : T} (ha : S.O a) (hb : S.O b) (hP : S.P a b) : ∃ r, Uni T.var a b r ∧ ∀ τ, r = .ok τ → UInv S τ ∧ sub τ a = sub τ b := by
  obtain ⟨r, hr, _⟩ := uni_total S.V T.var a b idem_var (vin_var _) (S.tin a ha) (S.tin b hb)
  refine ⟨r, hr, fun τ e => ?_⟩
  subst e
  exact ⟨(hr.inv (uinv_var S) (.of ha) (.of hb) hP).1, (hr.sound idem_var).2.2⟩
theorem uni_found {a b : T} {r : UR} (h : Uni T.var a b r) (θ : Sg) (e : sub θ a = sub θ b) : ∃ τ, r = .ok τ ∧ Goes θ τ := h.most idem_var (goes_var θ) e
/-- The other way round it is found, too. -/
theorem uni_turn {a b : T} {r q : UR} (h : Uni T.var a b r) (k : Uni T.var b a q) : (∃ τ τ', r = .ok τ ∧ q = .ok τ') ∨ ∃ e e', r = .bad e ∧ q = .bad e' := by
  cases r with
  | ok τ =>
    obtain ⟨τ', e, _⟩ := uni_found k τ (h.sound idem_var).2.2.symm
    exact .inl ⟨τ, τ', rfl, e⟩
  | bad e =>
    cases q with
    | ok τ' =>
      obtain ⟨_, e', _⟩ := uni_found h τ' (k.sound idem_var).2.2.symm
      cases e'
    | bad e' => exact .inr ⟨e, e', rfl, rfl⟩
theorem made_small {t : T} {D : Nat} (h : T.Good t ∧ Fits t ∧ (T.text t).length + 10 ≤ D) (hD : D ≤ 224) : uset3.O t := good_o3 h.1 (by have := tsize2_text t h.1; have := h.2.2; omega)
/-- The example's two types. -/
def s1 : USet := usetV [⟨#[97]⟩] 1 (by decide) (by decide) (by intro x hx; simp at hx; subst hx; decide) (by decide)
theorem o1_a : s1.O (.var ⟨#[97]⟩) := s1.var _ (by simp [s1, usetV])
theorem o1_int : s1.O tInt := ⟨fun x hx => by simp [tInt, vs, vss] at hx, .mk _ (by simp [tInt, T.kind]) (fun k hk => by simp [tInt, T.kids] at hk), by simp [tInt, tsize, tsizes]⟩
theorem first_found : ∃ τ, Uni T.var (.var ⟨#[97]⟩) tInt (.ok τ) ∧ UInv s1 τ ∧ ∀ l, PInv s1 l τ → l.length = 1 := by
  obtain ⟨r, hr, hs⟩ := uni_start s1 o1_a o1_int trivial
  obtain ⟨τ, rfl, _⟩ := uni_found hr (one ⟨#[97]⟩ tInt) (by show one ⟨#[97]⟩ tInt ⟨#[97]⟩ = _; rw [one_at]; rfl)
  refine ⟨τ, hr, (hs τ rfl).1, fun l hl => ?_⟩
  have h1 : τ ⟨#[97]⟩ = tInt := (hs τ rfl).2
  have h2 := hl.len
  have h3 : l ≠ [] := by
    rintro rfl
    have := hl.is ⟨#[97]⟩
    rw [h1] at this; cases this
  have : l.length ≠ 0 := fun e => h3 (List.length_eq_zero_iff.1 e)
  simp only [s1, usetV, List.length_singleton] at h2
  omega
end Go.Proofs.YtjnlchhikdfifaaGreatDoor
/- SchemeFree: what the names come to, as plain data. -/
namespace Go.Proofs.YtjnlchhikdfifaaGreatDoor
open Go.RowKit Go.Sort Go.Lib
attribute [local go_sem] Oper.semAt_some

theorem fv_nodups : ∀ t : T, ∀ bd out : List ByteArray, out.Nodup → (fv bd out t).Nodup := by
  refine T.kidsInd fun t ih bd out ho => ?_
  have hl : ∀ l : List T, (∀ k ∈ l, k ∈ t.kids) → ∀ bd out : List ByteArray, out.Nodup → (fvs bd out l).Nodup := by
    intro l
    induction l with
    | nil => intro _ bd out h; simpa [fvs] using h
    | cons a l ih2 => intro hk bd out h; rw [fvs]; exact ih2 (fun k h => hk k (List.mem_cons_of_mem _ h)) bd _ (ih a (hk a (List.mem_cons_self ..)) bd out h)
  cases t with
  | var n =>
    rw [fv]
    split
    · exact ho
    · rename_i h
      rw [List.nodup_append]
      exact ⟨ho, by simp, fun a ha b hb e => by
        have hb' : b = n := by simpa using hb
        exact h (.inr (by rw [← hb', ← e]; exact ha))⟩
  | con n l => rw [fv]; exact hl l (fun k h => h) bd out ho
  | fn a b => rw [fv]; exact ih b (by simp [T.kids]) bd _ (ih a (by simp [T.kids]) bd out ho)
  | all n a => rw [fv]; exact ih a (by simp [T.kids]) _ out ho
theorem fvs1_nodup (t : T) : (fvs [] [] [t]).Nodup := by rw [show fvs [] [] [t] = fv [] [] t by simp [fvs]]; exact fv_nodups t [] [] List.nodup_nil
theorem fvs1_mem {t : T} (h : NoAll t) {n : ByteArray} : n ∈ fvs [] [] [t] ↔ n ∈ vs t := by rw [← inB_iff]; exact vars_in h n
theorem only_if {l : List ByteArray} {m : ByteArray} {c : Bool} (hn : l.Nodup) (h : ∀ x ∈ l, x = m) (hc : c = true ↔ m ∈ l) : l = if c = true then [m] else [] := by
  cases l with
  | nil => rw [if_neg (fun e => nomatch hc.1 e)]
  | cons a l =>
    have ha := h a (List.mem_cons_self ..)
    subst ha
    rw [if_pos (hc.2 (List.mem_cons_self ..))]
    cases l with
    | nil => rfl
    | cons b l =>
      have hb := h b (by simp)
      subst hb
      simp at hn
theorem nm_sub {σ : Sg} : ∀ t, Nm t → (∀ y ∈ vs t, Nm (σ y)) → Nm (sub σ t) := by
  refine T.kidsInd fun t ih h hs => ?_
  cases hv : t.isV with
  | true =>
    rw [isV_var hv] at hs ⊢
    exact hs _ (by simp [vs])
  | false =>
    obtain ⟨e1, e2, e3, _⟩ := sub_parts σ t hv
    refine .mk _ (by rw [e2]; exact h.name) fun k hk => ?_
    rw [e3] at hk
    obtain ⟨k0, h0, rfl⟩ := List.mem_map.1 hk
    exact ih k0 h0 (h.kid h0) fun y hy => hs y ((vs_kids hv).2 ⟨k0, h0, hy⟩)
theorem tsizes_map {f : T → T} : ∀ l : List T, (∀ k ∈ l, tsize (f k) = tsize k) → tsizes (l.map f) = tsizes l
  | [], _ => rfl
  | a :: l, h => by rw [List.map_cons, tsizes, tsizes, h a (List.mem_cons_self ..), tsizes_map l fun k hk => h k (List.mem_cons_of_mem _ hk)]
theorem size_subV {σ : Sg} : ∀ t, (∀ y ∈ vs t, ∃ z, σ y = .var z) → tsize (sub σ t) = tsize t := by
  refine T.kidsInd fun t ih hs => ?_
  cases hv : t.isV with
  | true =>
    rw [isV_var hv] at hs ⊢
    obtain ⟨z, hz⟩ := hs t.name (by simp [vs])
    rw [sub, hz, tsize, tsize]
  | false =>
    obtain ⟨e1, e2, e3, _⟩ := sub_parts σ t hv
    rw [tsize_eq, tsize_eq t, e3, tsizes_map _ fun k hk => ih k hk fun y hy => hs y ((vs_kids hv).2 ⟨k, hk, hy⟩)]
theorem ty_prs_in : ∀ (F G : List ByteArray) (y : ByteArray), F.length = G.length → y ∈ F → ∃ z ∈ G, ty y (prs F G) = .var z
  | f :: F, g :: G, y, hl, hy => by
    rw [prs, ty_cons]
    by_cases e : f = y
    · rw [if_pos e]; exact ⟨g, List.mem_cons_self .., rfl⟩
    · rw [if_neg e]
      obtain ⟨z, hz, h⟩ := ty_prs_in F G y (by simpa using hl) ((List.mem_cons.1 hy).resolve_left fun q => e q.symm)
      exact ⟨z, List.mem_cons_of_mem _ hz, h⟩
  | [], _, _, _, hy => nomatch hy
  | _ :: _, [], _, hl, _ => by simp at hl
theorem ty_prs_out : ∀ (F G : List ByteArray) (y : ByteArray), y ∉ F → ty y (prs F G) = .var y
  | f :: F, g :: G, y, hy => by
    rw [prs, ty_cons, if_neg fun e : f = y => hy (by rw [← e]; exact List.mem_cons_self ..)]
    exact ty_prs_out F G y fun h => hy (List.mem_cons_of_mem _ h)
  | [], _, y, _ => by rw [prs]; exact ty_nil y; simp
  | _ :: _, [], y, _ => by rw [prs]; exact ty_nil y; simp
/-- What is for all, what is free. -/
theorem sf_free {t : T} {nm : ByteArray} : (fvs [] [] [t]).filter (fun n => !inB ((fvs [] [] [t]).filter fun n => !inB [nm] n) n) = if inB (fvs [] [] [t]) nm = true then [nm] else [] := by
  have hm : ∀ n, n ∈ (fvs [] [] [t]).filter (fun n => !inB [nm] n) ↔ n ∈ fvs [] [] [t] ∧ ¬ n = nm := fun n => by
    rw [List.mem_filter, Bool.not_eq_true', Bool.eq_false_iff, ne_eq, inB_iff, List.mem_singleton]
  refine only_if ((fvs1_nodup t).filter _) (fun x hx => ?_) ?_
  · obtain ⟨h1, h2⟩ := List.mem_filter.1 hx
    rw [Bool.not_eq_true', Bool.eq_false_iff, ne_eq, inB_iff, hm] at h2
    exact Classical.byContradiction fun e => h2 ⟨h1, e⟩
  · rw [inB_iff, List.mem_filter, Bool.not_eq_true', Bool.eq_false_iff, ne_eq, inB_iff, hm]
    exact ⟨fun h => ⟨h, fun q => q.2 rfl⟩, fun h => h.1⟩
theorem sf_nm : ∀ t, T.Good t → Nm t := by
  refine T.kidsInd fun t ih h => .mk t ?_ fun k hk => ih k hk (good_kid h hk)
  cases t with
  | var n => rw [T.Good] at h; have := (vname_pos h).2; simp only [T.name]; omega
  | con n l => rw [T.Good] at h; have := (cname_pos h.1).2; simp only [T.name]; omega
  | fn a b => exact (by decide : (0 : Nat) ≤ 1000)
  | all n a => rw [T.Good] at h; exact h.elim
structure SfU (t U : T) (nm : ByteArray) (zn : List ByteArray) : Prop where
  nmU : Nm U
  size : tsize U = tsize t
  names : ∀ n ∈ fvs [] [] [U], n.size ≤ 1000000
  zsize : ∀ n ∈ zn, n.size ≤ 1000000
  zlen : zn.length ≤ (fvs [] [] [t]).length
  free : (fvs [] [] [U]).filter (fun n => !inB zn n) = if inB (fvs [] [] [t]) nm = true then [nm] else []
  apart : inB (fvs [] [] [t]) nm = true → ∀ x ∈ zn, x ≠ nm
theorem sf_u {t : T} {nm : ByteArray} {zn X : List ByteArray} (hG : T.Good t) (hX : ((fvs [] [] [t]).filter fun n => !inB [nm] n) = X)
    (hz : NewN ((fvs [] [] [t]).filter (inB X)).length ((fvs [] [] [t]).filter fun n => !inB X n) zn) : SfU t (app (prs ((fvs [] [] [t]).filter (inB X)) zn) t) nm zn := by
  have hP := good_plain t hG
  have hF := @fvs1_mem t hP.no
  have hos := @sf_free t nm
  rw [hX] at hos
  rw [hos] at hz
  obtain ⟨hzl, hzn, hza⟩ := hz
  have hxm : ∀ n, n ∈ X ↔ n ∈ fvs [] [] [t] ∧ ¬ n = nm := fun n => by
    rw [← hX, List.mem_filter, Bool.not_eq_true', Bool.eq_false_iff, ne_eq, inB_iff, List.mem_singleton]
  have hbm : ∀ n, n ∈ (fvs [] [] [t]).filter (inB X) ↔ n ∈ fvs [] [] [t] ∧ ¬ n = nm := fun n => by
    rw [List.mem_filter, inB_iff, hxm]; exact ⟨fun h => h.2, fun h => ⟨h.1, h⟩⟩
  have hbl := List.length_filter_le (inB X) (fvs [] [] [t])
  generalize (fvs [] [] [t]).filter (inB X) = bs at *
  have hsg : ∀ y ∈ vs t, (∃ z ∈ zn, ty y (prs bs zn) = .var z ∧ y ≠ nm) ∨ (y = nm ∧ ty y (prs bs zn) = .var y) := fun y hy => by
    by_cases e : y = nm
    · exact .inr ⟨e, ty_prs_out bs zn y fun h => ((hbm y).1 h).2 e⟩
    · obtain ⟨z, h1, h2⟩ := ty_prs_in bs zn y hzl.symm ((hbm y).2 ⟨hF.2 hy, e⟩)
      exact .inl ⟨z, h1, h2, e⟩
  have hv : ∀ y ∈ vs t, ∃ z, ty y (prs bs zn) = .var z ∧ z.size ≤ 1000 := fun y hy => by
    rcases hsg y hy with ⟨z, h1, h2, _⟩ | ⟨_, h2⟩
    · exact ⟨z, h2, by rw [(hza z h1).2]; decide⟩
    · exact ⟨y, h2, v3_small y (good_in t hG y hy)⟩
  have hap : inB (fvs [] [] [t]) nm = true → ∀ x ∈ zn, x ≠ nm := fun h x hx e => (hza x hx).1 (by rw [if_pos h, e]; exact List.mem_singleton_self _)
  have hU : app (prs bs zn) t = sub (fun n => ty n (prs bs zn)) t := app_sub _ t
  rw [hU]
  have hPU : Plain3 (sub (fun n => ty n (prs bs zn)) t) := plain_sub t hP fun y hy => by
    obtain ⟨z, h, _⟩ := hv y hy
    rw [h]; exact .mk _ (by simp [T.kind]) (fun k hk => by cases hk)
  have hFU := @fvs1_mem _ hPU.no
  have hvu : ∀ x, x ∈ vs (sub (fun n => ty n (prs bs zn)) t) ↔ ∃ y ∈ vs t, x ∈ vs (ty y (prs bs zn)) := fun x => vs_sub t
  refine ⟨nm_sub t (sf_nm t hG) fun y hy => ?_, size_subV t fun y hy => (hv y hy).imp fun _ h => h.1, fun n hn => ?_, fun n hn => by rw [(hza n hn).2]; decide, by rw [hzl]; exact hbl, ?_, hap⟩
  · obtain ⟨z, h, hs⟩ := hv y hy
    rw [h]; exact .mk _ hs fun k hk => by cases hk
  · obtain ⟨y, hy, hx⟩ := (hvu n).1 (hFU.1 hn)
    obtain ⟨z, h, hs⟩ := hv y hy
    rw [h] at hx
    have : n = z := by simpa [vs] using hx
    rw [this]; omega
  · refine only_if ((fvs1_nodup _).filter _) (fun x hx => ?_) ?_
    · obtain ⟨h1, h2⟩ := List.mem_filter.1 hx
      rw [Bool.not_eq_true', Bool.eq_false_iff, ne_eq, inB_iff] at h2
      obtain ⟨y, hy, hx⟩ := (hvu x).1 (hFU.1 h1)
      rcases hsg y hy with ⟨z, k1, k2, _⟩ | ⟨k1, k2⟩
      · rw [k2] at hx
        have : x = z := by simpa [vs] using hx
        exact absurd (this ▸ k1) h2
      · rw [k2] at hx
        have : x = y := by simpa [vs] using hx
        rw [this, k1]
    · rw [inB_iff, List.mem_filter, Bool.not_eq_true', Bool.eq_false_iff, ne_eq, inB_iff, hFU, hvu]
      refine ⟨fun h => ⟨⟨nm, hF.1 h, ?_⟩, fun q => hap (inB_iff.2 h) nm q rfl⟩, fun h => ?_⟩
      · rw [ty_prs_out bs zn nm fun q => ((hbm nm).1 q).2 rfl]; simp [vs]
      · obtain ⟨⟨y, hy, hx⟩, h2⟩ := h
        rcases hsg y hy with ⟨z, k1, k2, _⟩ | ⟨k1, k2⟩
        · rw [k2] at hx
          have : nm = z := by simpa [vs] using hx
          exact absurd (this ▸ k1) h2
        · rw [← k1]; exact hF.2 hy
theorem sf_small {t : T} (hG : T.Good t) : (∀ n ∈ fvs [] [] [t], n.size ≤ 1000000) ∧ (fvs [] [] [t]).length ≤ 3 := by
  have hF := @fvs1_mem t (good_plain t hG).no
  refine ⟨fun n hn => ?_, nodup_lenS (R := V3) (fvs1_nodup t) fun n hn => good_in t hG n (hF.1 hn)⟩
  have := v3_small n (good_in t hG n (hF.1 hn)); omega
end Go.Proofs.YtjnlchhikdfifaaGreatDoor
/- SchemeFresh: plain facts: numbers' names, and names that are put back. -/
namespace Go.Proofs.YtjnlchhikdfifaaGreatDoor
open Go.RowKit Go.Sort Go.Lib
attribute [local go_sem] Oper.semAt_some

def valD (l : List UInt8) : Nat := l.foldl (fun a d => a * 10 + (d.toNat - 48)) 0
theorem valD_dec (u : Nat) : valD (Lib.decDigits u) = u := by
  induction u using Nat.strongRecOn with
  | _ u ih =>
    rw [Lib.decDigits]
    split
    · rename_i h
      have : (48 + u) % 256 = 48 + u := Nat.mod_eq_of_lt (by omega)
      simp [valD, this]
    · rename_i h
      have h1 := ih (u / 10) (by omega)
      have h2 : (48 + u % 10) % 256 = 48 + u % 10 := Nat.mod_eq_of_lt (by omega)
      unfold valD at h1 ⊢
      rw [List.foldl_append, h1]
      simp [h2]
      omega
theorem qn_data (u : Nat) : (qn u).data.toList = 63 :: Lib.decDigits u := by unfold qn; simp
theorem qn_inj {u v : Nat} (h : qn u = qn v) : u = v := by
  have e : Lib.decDigits u = Lib.decDigits v := by
    have := congrArg (fun b : ByteArray => b.data.toList) h
    simp only [qn_data] at this
    exact (List.cons.inj this).2
  rw [← valD_dec u, e, valD_dec]
theorem dec_pos (u : Nat) : 1 ≤ (Lib.decDigits u).length := by
  unfold Lib.decDigits
  split
  · exact Nat.le_refl 1
  · rw [List.length_append]; exact Nat.le_add_left ..
theorem qn_size (u : Nat) : 2 ≤ (qn u).size := by
  have : (qn u).size = (qn u).data.toList.length := rfl
  rw [this, qn_data]
  have := dec_pos u
  simp; omega
/-- The names of so many numbers. -/
def qns (z n : Nat) : List ByteArray := (List.range n).map fun i => qn (z + i)
theorem qns_len (z n : Nat) : (qns z n).length = n := by simp [qns]
theorem qns_at (z n j : Nat) (hj : j < (qns z n).length) : (qns z n)[j] = qn (z + j) := by simp [qns]
theorem qns_getD {z n j : Nat} (hj : j < n) : (qns z n).getD j ⟨#[]⟩ = qn (z + j) := by
  have hj' : j < (qns z n).length := by rw [qns_len]; exact hj
  have h := qns_at z n j hj'
  rw [List.getD_eq_getElem?_getD, List.getElem?_eq_getElem hj']
  exact h
theorem qns_nodup (z n : Nat) : (qns z n).Nodup := by
  unfold qns List.Nodup
  rw [List.pairwise_map]
  exact List.nodup_range.imp fun {i j} hij e => hij (by have := qn_inj e; omega)
theorem qns_new {z n i : Nat} : inB ((qns z n).take i) (qn (z + i)) = false := by
  refine inB_false fun j hj e => ?_
  rw [List.getElem_take, qns_at] at e
  have := qn_inj e
  have hj' : j < i := by simp at hj; omega
  omega
/-- What is put in comes back. -/
theorem fr_ty : ∀ (F G : List ByteArray), G.length = F.length → G.Nodup → ∀ y, y ∈ F → ∃ g, g ∈ G ∧ ty y (prs F G) = .var g ∧ ty g (prs G F) = .var y
  | f :: F, g :: G, hl, hG, y, hy => by
    obtain ⟨hg0, hG'⟩ := List.nodup_cons.1 hG
    rw [prs, ty_cons]
    by_cases e : f = y
    · rw [if_pos e, prs]
      exact ⟨g, List.mem_cons_self .., rfl, by rw [ty_cons, if_pos rfl, e]⟩
    · rw [if_neg e]
      obtain ⟨g', h1, h2, h3⟩ := fr_ty F G (by simpa using hl) hG' y ((List.mem_cons.1 hy).resolve_left fun q => e q.symm)
      refine ⟨g', List.mem_cons_of_mem _ h1, h2, ?_⟩
      rw [prs, ty_cons]
      have hne : ¬ (g = g') := fun q => hg0 (q ▸ h1)
      rw [if_neg hne]; exact h3
  | [], _, _, _, _, hy => nomatch hy
  | _ :: _, [], hl, _, _, _ => by simp at hl
theorem fr_back {F G : List ByteArray} (hl : G.length = F.length) (hG : G.Nodup) {u : T} (hu : ∀ x ∈ vs u, x ∈ F) : app (prs G F) (app (prs F G) u) = u := by
  rw [app_sub, app_sub, sub_sub]
  refine sub_id fun x hx => ?_
  obtain ⟨g, _, e1, e2⟩ := fr_ty F G hl hG x (hu x hx)
  rw [e1, sub]; exact e2
theorem fr_size {F G : List ByteArray} (hl : G.length = F.length) {u : T} (hu : ∀ x ∈ vs u, x ∈ F) : tsize (app (prs F G) u) = tsize u := by
  rw [app_sub]
  refine size_subV u fun y hy => ?_
  obtain ⟨z, _, h⟩ := ty_prs_in F G y hl.symm (hu y hy)
  exact ⟨z, h⟩
/-- The variables of a type and of a context, made of numbers. -/
theorem fvs_nodups : ∀ (l : List T) (bd out : List ByteArray), out.Nodup → (fvs bd out l).Nodup
  | [], _, _, h => by simpa [fvs] using h
  | a :: l, bd, out, h => by rw [fvs]; exact fvs_nodups l bd _ (fv_nodups a bd out h)
theorem hasTs_in : ∀ (l : List T), (∀ u ∈ l, T.Good u) → ∀ n, hasTs n l = true ↔ ∃ u ∈ l, n ∈ vs u
  | [], _, n => by simp [hasTs]
  | u :: l, h, n => by
    rw [hasTs, Bool.or_eq_true, hasTs_in l (fun k hk => h k (List.mem_cons_of_mem _ hk)) n, (good_plain u (h u (List.mem_cons_self ..))).no n]
    simp only [List.mem_cons, exists_eq_or_imp]
theorem fvs_in (l : List T) (h : ∀ u ∈ l, T.Good u) (n : ByteArray) : n ∈ fvs [] [] l ↔ ∃ u ∈ l, n ∈ vs u := by
  rw [fvs_mem, hasTs_in l h n]; simp
theorem fvs_three (l : List T) (h : ∀ u ∈ l, T.Good u) : (fvs [] [] l).length ≤ 3 := nodup_lenS (R := V3) (fvs_nodups l [] [] List.nodup_nil) fun n hn => by
  obtain ⟨u, hu, hx⟩ := (fvs_in l h n).1 hn
  exact good_in u (h u hu) n hx
theorem tsizes_le : ∀ (l : List T) (m : Nat), (∀ u ∈ l, tsize u ≤ m) → tsizes l ≤ l.length * m
  | [], m, _ => by simp [tsizes]
  | u :: l, m, h => by
    rw [tsizes, List.length_cons, Nat.succ_mul]
    have h1 := h u (List.mem_cons_self ..)
    have h2 := tsizes_le l m fun k hk => h k (List.mem_cons_of_mem _ hk)
    omega
/-- The pairs that are put back. -/
theorem appP_back {F G : List ByteArray} (hl : G.length = F.length) (hG : G.Nodup) {l : List Pr} (h : ∀ q ∈ l, ∀ x ∈ vs q.2, x ∈ F) : appP (prs G F) (appP (prs F G) l) = l := by
  unfold appP
  rw [List.map_map]
  refine (List.map_congr_left fun q hq => ?_).trans (List.map_id l)
  show (q.1, app (prs G F) (app (prs F G) q.2)) = q
  rw [fr_back hl hG (h q hq)]
end Go.Proofs.YtjnlchhikdfifaaGreatDoor
/- Schemes with a context: plain facts. -/
namespace Go.Proofs.YtjnlchhikdfifaaGreatDoor
open Go.RowKit Go.Sort Go.Lib
attribute [local go_sem] Oper.semAt_some

/-- A type of no great size, its variables among V. -/
def TOK (V : List ByteArray) (u : T) : Prop := Plain3 u ∧ Nm u ∧ tsize u ≤ 200 ∧ ∀ n ∈ vs u, n ∈ V
def VOK (V : List ByteArray) : Prop := V.length ≤ 4 ∧ ∀ n ∈ V, n.size ≤ 1000
/-- A scheme's types. -/
def SOK (V : List ByteArray) (t : T) (lc : List Pr) : Prop := VOK V ∧ lc.length ≤ 12 ∧ ∀ u ∈ t :: lc.map (·.2), TOK V u
theorem hasTs_inN : ∀ (l : List T), (∀ u ∈ l, NoAll u) → ∀ n, hasTs n l = true ↔ ∃ u ∈ l, n ∈ vs u
  | [], _, n => by simp [hasTs]
  | u :: l, h, n => by
    rw [hasTs, Bool.or_eq_true, hasTs_inN l (fun k hk => h k (List.mem_cons_of_mem _ hk)) n, h u (List.mem_cons_self ..) n]
    simp only [List.mem_cons, exists_eq_or_imp]
theorem fvs_inN (l : List T) (h : ∀ u ∈ l, NoAll u) (n : ByteArray) : n ∈ fvs [] [] l ↔ ∃ u ∈ l, n ∈ vs u := by
  rw [fvs_mem, hasTs_inN l h n]; simp
theorem SOK.all {V : List ByteArray} {t : T} {lc : List Pr} (h : SOK V t lc) : (∀ n, n ∈ fvs [] [] (t :: lc.map (·.2)) ↔ ∃ u ∈ t :: lc.map (·.2), n ∈ vs u) ∧ (fvs [] [] (t :: lc.map (·.2))).length ≤ 4 ∧ (∀ n ∈ fvs [] [] (t :: lc.map (·.2)), n.size ≤ 1000) ∧ tsizes (t :: lc.map (·.2)) ≤ 2600 := by
  have h1 := fvs_inN (t :: lc.map (·.2)) fun u hu => (h.2.2 u hu).1.no
  have hin : ∀ n ∈ fvs [] [] (t :: lc.map (·.2)), n ∈ V := fun n hn => by
    obtain ⟨u, hu, hx⟩ := (h1 n).1 hn
    exact (h.2.2 u hu).2.2.2 n hx
  refine ⟨h1, Nat.le_trans (nodup_lenS (fvs_nodups _ [] [] List.nodup_nil) hin) h.1.1, fun n hn => h.1.2 n (hin n hn), ?_⟩
  have := tsizes_le (t :: lc.map (·.2)) 200 fun u hu => (h.2.2 u hu).2.2.1
  have hl := h.2.1
  simp at this; omega
theorem SOK.same {V : List ByteArray} {t : T} {l m : List Pr} (h : SOK V t l) (hm : ∀ q ∈ m, q ∈ l) (hl : m.length ≤ 12) : SOK V t m :=
  ⟨h.1, hl, fun u hu => by
    rcases List.mem_cons.1 hu with rfl | hu
    · exact h.2.2 _ (List.mem_cons_self ..)
    · obtain ⟨q, hq, rfl⟩ := List.mem_map.1 hu
      exact h.2.2 _ (List.mem_cons_of_mem _ (List.mem_map.2 ⟨q, hm q hq, rfl⟩))⟩
/-- In order, each once. -/
def SrtP (l : List Pr) : Prop := l.Pairwise fun p q : Pr => orI (cmpL p.1.data.toList q.1.data.toList) (cmpT p.2 q.2) < 0
theorem srtP_of {l : List PR} (h : l.Pairwise fun x y => cmpR x y < 0) : SrtP (l.map prOf) := by
  unfold SrtP; rw [List.pairwise_map]; exact h
theorem srtP_one {l m : List Pr} (hl : SrtP l) (hm : SrtP m) (h : ∀ q, q ∈ l ↔ q ∈ m) : l = m := by
  have lift : ∀ k : List Pr, (k.map fun q => (⟨q.1, q.2, none, 0⟩ : PR)).map prOf = k := fun k => by rw [List.map_map]; exact List.map_id k
  have key : ∀ k : List Pr, SrtP k → (k.map fun q => (⟨q.1, q.2, none, 0⟩ : PR)).Pairwise fun x y => cmpR x y < 0 := fun k hk => by
    rw [List.pairwise_map]; exact hk
  have := strict_unique _ _ (key l hl) (key m hm) (fun q => by rw [lift, lift]; exact h q)
  rw [lift, lift] at this
  exact this
/-- The bound ones, the free ones. -/
noncomputable def bsOf (t : T) (l : List Pr) (xs : List ByteArray) : List ByteArray := (fvs [] [] (t :: l.map (·.2))).filter (inB xs)
noncomputable def osOf (t : T) (l : List Pr) (xs : List ByteArray) : List ByteArray := (fvs [] [] (t :: l.map (·.2))).filter fun n => !inB xs n
/-- What Canon makes of a scheme. -/
def CanP (t : T) (lc : List Pr) (xs zn : List ByteArray) (u : T) (l2 : List Pr) : Prop :=
  ∃ l1, SrtP l1 ∧ (∀ q, q ∈ l1 ↔ q ∈ lc) ∧ NewX (bsOf t l1 xs).length (osOf t l1 xs) zn ∧ u = app (prs (bsOf t l1 xs) zn) t ∧ SrtP l2 ∧ ∀ q, q ∈ l2 ↔ q ∈ appP (prs (bsOf t l1 xs) zn) l1
theorem srtP_len {l m : List Pr} (h : SrtP l) (hs : ∀ q ∈ l, q ∈ m) : l.length ≤ m.length := by
  classical
  have hn : l.Nodup := by
    unfold List.Nodup
    exact h.imp fun {x y} hlt e => by
      subst e
      have : cmpR (⟨x.1, x.2, none, 0⟩ : PR) (⟨x.1, x.2, none, 0⟩ : PR) = 0 := (cmpR_zero _ _).2 ⟨rfl, rfl⟩
      have h2 : cmpR (⟨x.1, x.2, none, 0⟩ : PR) (⟨x.1, x.2, none, 0⟩ : PR) < 0 := hlt
      omega
  exact nodup_lenS hn hs
/-- The types of what Canon hands back are no greater. -/
theorem canP_ok {V : List ByteArray} {t : T} {lc : List Pr} {xs zn : List ByteArray} {u : T} {l2 : List Pr} (hok : SOK V t lc) (h : CanP t lc xs zn u l2) : tsize u ≤ 200 ∧ (∀ q ∈ l2, tsize q.2 ≤ 200) ∧ l2.length ≤ 12 ∧ zn.length ≤ 4 := by
  obtain ⟨l1, hs1, hm1, hn, rfl, hs2, hm2⟩ := h
  have hsz : ∀ v : T, tsize (app (prs (bsOf t l1 xs) zn) v) = tsize v := fun v => by
    rw [app_sub]
    refine size_subV v fun y _ => ?_
    by_cases hy : y ∈ bsOf t l1 xs
    · obtain ⟨z, _, e⟩ := ty_prs_in (bsOf t l1 xs) zn y hn.1.1.symm hy; exact ⟨z, e⟩
    · exact ⟨y, ty_prs_out _ zn y hy⟩
  have hl1 : l1.length ≤ 12 := Nat.le_trans (srtP_len hs1 fun q h => (hm1 q).1 h) hok.2.1
  have hok1 := hok.same (fun q h => (hm1 q).1 h) hl1
  refine ⟨by rw [hsz]; exact (hok.2.2 t (List.mem_cons_self ..)).2.2.1, fun q hq => ?_, ?_, ?_⟩
  · obtain ⟨q0, h0, rfl⟩ := List.mem_map.1 ((hm2 q).1 hq)
    show tsize (app _ q0.2) ≤ 200
    rw [hsz]
    exact (hok1.2.2 q0.2 (List.mem_cons_of_mem _ (List.mem_map.2 ⟨q0, h0, rfl⟩))).2.2.1
  · have := srtP_len hs2 fun q h => (hm2 q).1 h
    have hl : (appP (prs (bsOf t l1 xs) zn) l1).length = l1.length := by simp [appP]
    omega
  · rw [hn.1.1]
    have h1 := List.length_filter_le (inB xs) (fvs [] [] (t :: l1.map (·.2)))
    have h2 := hok1.all.2.1
    unfold bsOf; omega
end Go.Proofs.YtjnlchhikdfifaaGreatDoor
/- scheme.Canon of a scheme with a context. -/
namespace Go.Proofs.YtjnlchhikdfifaaGreatDoor
open Go.RowKit Go.Sort Go.Lib
attribute [local go_sem] Oper.semAt_some

/-- A scheme in its block, its context, and a block that is to hold one. -/
def SDg (w : World) (b1 b2 : Nat) (xv : Value) (ca : Option Addr) (cn cc : Nat) (lc : List Pr) (u : T) (zt : Option Addr) (zu : Nat) (ls : List ByteArray) (V : World) : Prop := SD w b1 b2 xv (.slice ca cn cc) u zt zu ls V ∧ PrsAt V (.slice ca cn cc) lc
theorem SDg.below {w : World} {b1 b2 : Nat} {xv : Value} {ca : Option Addr} {cn cc : Nat} {lc : List Pr} {u : T} {zt : Option Addr} {zu : Nat} {ls : List ByteArray} {V Y : World} (h : SDg w b1 b2 xv ca cn cc lc u zt zu ls V) (hb : Below V.heap.size V Y) : SDg w b1 b2 xv ca cn cc lc u zt zu ls Y := ⟨h.1.below hb, h.2.belowG hb⟩
set_option maxRecDepth 100000 in
set_option maxHeartbeats 8000000 in
theorem canonG_any (V0 : List ByteArray) (t : T) (lc : List Pr) (xs : List ByteArray) (hok : SOK V0 t lc) (hxs : ∀ n ∈ xs, n.size ≤ 1000000) (hxl : xs.length ≤ 1000000) (xa ca ta : Option Addr) (xc cc tc : Nat) (w : World) (ht : TysAt w (.slice ta t.kids.length tc) t.kids) (hx : TextsAt w (.slice xa xs.length xc) xs) (hP : PrsAt w (.slice ca lc.length cc) lc) :
    Calls Tryz.prog 12 #[.agg #[.slice xa xs.length xc, .slice ca lc.length cc, .int .i64 t.kind, .string t.name, .slice ta t.kids.length tc]] w fun e w' =>
      (∃ (zn : List ByteArray) (u : T) (l2 : List Pr) (za : Option Addr) (zc : Nat) (zp : Option Addr) (zq : Nat) (zt : Option Addr) (zu : Nat), e = .returned (.agg #[.slice za zn.length zc, .slice zp l2.length zq, .int .i64 u.kind, .string u.name, .slice zt u.kids.length zu]) ∧ (TextsAt w' (.slice za zn.length zc) zn ∧ PrsAt w' (.slice zp l2.length zq) l2 ∧ TysAt w' (.slice zt u.kids.length zu) u.kids) ∧ CanP t lc xs zn u l2) ∧ Below w.heap.size w w' := by
  have hb0 := below_two w (.cells #[.slice xa xs.length xc, .slice ca lc.length cc, .int .i64 t.kind, .string t.name, .slice ta t.kids.length tc] 33) (.cells #[.slice none 0 0, .slice none 0 0, .int .i64 0, .string ⟨#[]⟩, .slice none 0 0] 33)
  have hB0 := (SchB.new (xv := .slice xa xs.length xc) (cv := .slice ca lc.length cc) ht).below ((Below.refl _ _).alloc (Nat.le_refl _) (.cells #[.slice none 0 0, .slice none 0 0, .int .i64 0, .string ⟨#[]⟩, .slice none 0 0] 33))
  have hZ0 := new_two w (.cells #[.slice xa xs.length xc, .slice ca lc.length cc, .int .i64 t.kind, .string t.name, .slice ta t.kids.length tc] 33) (.cells #[.slice none 0 0, .slice none 0 0, .int .i64 0, .string ⟨#[]⟩, .slice none 0 0] 33)
  have H0 := Lib.hid (And.intro hB0 (And.intro (show Sch0 (w.heap.size + 1) _ from hZ0) (And.intro (hx.below hb0) hb0)))
  have HP0 := Lib.hid (hP.belowG hb0)
  have hcell := (cells5 hB0.1).2.1
  have HOk := Lib.hid hok; have HXS := Lib.hid hxs
  have hz0 : w.heap.size < w.heap.size + 1 := by omega
  clear hb0 hB0 hZ0 ht hx hok hxs hP
  go_enter Tryz.func12, Tryz.ntmps12
  go_wp2_with (go_at_call 19; fail)
  refine (sortPreds_any lc _ _ HP0.out (fun q hq => by have := (HOk.out.2.2 q.2 (List.mem_cons_of_mem _ (List.mem_map.2 ⟨q, hq, rfl⟩))).2.2.1; omega) (fun q hq => fits_small (by have := (HOk.out.2.2 q.2 (List.mem_cons_of_mem _ (List.mem_map.2 ⟨q, hq, rfl⟩))).2.2.1; omega)) HOk.out.2.1).mono ?_
  rintro e w1 ⟨⟨ks, ra, rc, rfl, hp1, hs1, hm1⟩, hb1⟩
  have hsr := srtP_of hs1
  have hkl : (ks.map prOf).length = ks.length := List.length_map ..
  rw [← hkl] at hp1 ⊢
  generalize ks.map prOf = l1 at hp1 hm1 hsr
  have hl1 : l1.length ≤ 12 := Nat.le_trans (srtP_len hsr fun q h => (hm1 q).1 h) HOk.out.2.1
  have HOk1 := Lib.hid (HOk.out.same (fun q h => (hm1 q).1 h) hl1)
  have HC1 := Lib.hid (And.intro hsr hm1)
  have H1 := Lib.hid (And.intro (H0.out.1.below hb1) (And.intro (H0.out.2.1.below hb1) (And.intro (H0.out.2.2.1.below hb1) (H0.out.2.2.2.trans (hb1.mono H0.out.2.2.2.size)))))
  have HP1 := Lib.hid hp1
  have hc1 := cells5 H1.out.1.1
  clear hb1 H0 hcell hp1 hs1 hm1 hsr HP0 HOk hkl
  obtain ⟨v0, v1, v2, v3, v4⟩ := hc1
  have f1 := Lib.frozen_of_heap H1.out.1.1 1
  go_wp2_with (fail)
  have H2 := Lib.hid (And.intro (H1.out.1.set1 (cv' := .slice ra l1.length rc)) (And.intro (show Sch0 (w.heap.size + 1) (w1.setCell ⟨w.heap.size, 1, none⟩ (.slice ra l1.length rc)) from (Below.heap_setCell _ ⟨w.heap.size, 1, none⟩ _ _ (show w.heap.size + 1 ≠ w.heap.size by omega)).trans H1.out.2.1) (And.intro (texts_set (o := 1) (v := .slice ra l1.length rc) H1.out.1 H1.out.2.2.1) (And.intro (prs_set (o := 1) (v := .slice ra l1.length rc) H1.out.1 HP1.out) (H1.out.2.2.2.setCell (p := ⟨w.heap.size, 1, none⟩) (Nat.le_refl _) (.slice ra l1.length rc))))))
  clear H1 v0 v1 v2 v3 v4 f1 HP1
  generalize w1.setCell ⟨w.heap.size, 1, none⟩ (.slice ra l1.length rc) = W2 at *
  obtain ⟨L, hL⟩ : ∃ L, fvs [] [] (t :: l1.map (·.2)) = L := ⟨_, rfl⟩
  have HAll := Lib.hid HOk1.out.all
  have HL := Lib.hid hL
  rw [hL] at HAll
  clear hL
  refine gcn_here (w := W2) (b1 := w.heap.size) (xa := xa) (ca := ra) (ta := ta) (xc := xc) (cc := rc) (tc := tc) (xs := xs) (lc := l1) (t := t) (L := L)
    (fun V h => by
      have := varsG_any t l1 (fun u hu => (HOk1.out.2.2 u hu).2.1) (by have := HOk1.out.all.2.2.2; omega) (by omega) _ _ _ _ V h.1.2 h.2.2.1
      rw [HL.out] at this
      refine this.mono fun e Y hq => ?_
      obtain ⟨⟨v, rfl, hv⟩, hb⟩ := hq
      obtain ⟨a', c', rfl⟩ := hv.shape
      exact ⟨⟨a', c', rfl, hv⟩, hb⟩)
    (fun V h _ _ k => (split_any _ _ (by have := HAll.out.2.1; omega) hxl (fun n hn => by have := HAll.out.2.2.1 n hn; omega) HXS.out _ _ _ _ V k h.2.1).mono fun e Y hq => by
      obtain ⟨⟨vi, vo, rfl, hvi, hvo⟩, hb⟩ := hq
      obtain ⟨ia, ic, rfl⟩ := hvi.shape
      obtain ⟨oa, oc, rfl⟩ := hvo.shape
      exact ⟨⟨ia, ic, oa, oc, rfl, hvi, hvo⟩, hb⟩)
    _ (by kernel_rfl) (by kernel_rfl) (by kernel_rfl) ⟨H2.out.1.below (below_d _), H2.out.2.2.1.below (below_d _), H2.out.2.2.2.1.belowG (below_d _), below_d _⟩ ?_
  intro x V zi zp zo zq hV e11 e12 k1 k2
  have hbo : (L.filter (inB xs)).length + (L.filter fun n => !inB xs n).length ≤ 4 := by
    have h3 : ∀ l : List ByteArray, (l.filter (inB xs)).length + (l.filter fun x => !inB xs x).length = l.length := by
      intro l
      induction l with
      | nil => rfl
      | cons a l ih => cases h : inB xs a <;> simp [h] <;> omega
    rw [h3]; exact HAll.out.2.1
  have HSz : Hid ((∀ n ∈ L.filter (inB xs), n.size ≤ 1000000) ∧ ∀ n ∈ L.filter (fun n => !inB xs n), n.size ≤ 1000000) := Lib.hid ⟨fun n h => by have := HAll.out.2.2.1 n (List.mem_filter.1 h).1; omega, fun n h => by have := HAll.out.2.2.1 n (List.mem_filter.1 h).1; omega⟩
  obtain ⟨bs, hbs⟩ : ∃ l, L.filter (inB xs) = l := ⟨_, rfl⟩
  obtain ⟨os, hos⟩ : ∃ l, (L.filter fun n => !inB xs n) = l := ⟨_, rfl⟩
  rw [hbs] at e11 k1 hbo HSz
  rw [hos] at e12 k2 hbo HSz
  have HB := Lib.hid (show bsOf t l1 xs = bs by unfold bsOf; rw [HL.out]; exact hbs)
  have HO := Lib.hid (show osOf t l1 xs = os by unfold osOf; rw [HL.out]; exact hos)
  have H3 := Lib.hid (show SNg w w.heap.size (w.heap.size + 1) xa xs.length xc ra rc l1 t ta tc zi zp zo zq bs os V from ⟨hV.1, H2.out.2.1.below hV.2.2.2, ⟨k1, k2⟩, hV.2.2.1, H2.out.2.2.2.2.trans (hV.2.2.2.mono H2.out.2.2.2.2.size)⟩)
  clear hbs hos k1 k2 hV H2 HXS HAll HL
  simp only [gcnFr, e11, e12]
  simp only [Array.getD_eq_getD_getElem?, List.getElem?_toArray, List.getElem?_cons_succ, List.getElem?_cons_zero, Option.getD_some]
  go_wp2_with (fail)
  refine gch_here (w := w) (b1 := w.heap.size) (b2 := w.heap.size + 1) (xa := xa) (xn := xs.length) (xc := xc) (ca := ra) (cc := rc) (lc := l1) (t := t) (ta := ta) (tc := tc) (ba := zi) (bc := zp) (oa := zo) (oc := zq) (bs := bs) (os := os)
    (fun V h => (newNamesX_any bs.length os (by omega) HSz.out.2 _ _ V h.2.2.1.2).mono fun e Y hq => by
      obtain ⟨⟨v, zn, rfl, hv, hn⟩, hb⟩ := hq
      obtain ⟨a', c', rfl⟩ := hv.shape
      exact ⟨⟨zn, a', c', rfl, hv, hn⟩, hb⟩)
    (fun V h zn5 za5 zc5 k => (fren_any t bs zn5 k.2.1.1.symm (by omega) (by have := (HOk1.out.2.2 t (List.mem_cons_self ..)).2.2.1; omega) l1 (fun q hq => by have := (HOk1.out.2.2 q.2 (List.mem_cons_of_mem _ (List.mem_map.2 ⟨q, hq, rfl⟩))).2.2.1; omega) (by omega) _ _ _ _ _ _ _ _ _ V h.1.2 h.2.2.1.1.strs k.1.strs h.2.2.2.1).mono fun e Y hq => by
      obtain ⟨⟨pa, pc, za, zc, rfl, hPc, hT⟩, hb⟩ := hq
      exact ⟨⟨zn5, za5, zc5, pa, pc, za, zc, rfl, ⟨k.1.below hb, k.2⟩, hPc, hT⟩, hb⟩)
    _ (by kernel_rfl) (by kernel_rfl) (by kernel_rfl) (by kernel_rfl) (by kernel_rfl) (H3.out.below (below_d _)) ?_
  intro y W zn za zc zp zq zt zu hW hT
  have hlq : (appP (prs bs zn) l1).length = l1.length := by simp [appP]
  have H4 := Lib.hid (show SDg w w.heap.size (w.heap.size + 1) (.slice za zn.length zc) zp l1.length zq (appP (prs bs zn) l1) (app (prs bs zn) t) zt zu zn (set5 W w.heap.size (.slice za zn.length zc) (.slice zp l1.length zq) (.int .i64 (app (prs bs zn) t).kind) (.string (app (prs bs zn) t).name) (.slice zt (app (prs bs zn) t).kids.length zu)) from
    ⟨SD.of5 (cv := .slice zp l1.length zq) hW.1 hW.2.1 hT.1.1 hT.2.2 hW.2.2.2.2 (show w.heap.size + 1 ≠ w.heap.size by omega) (Nat.le_refl _), prs_set5 hW.1 hT.2.1 _ _ _ _ _⟩)
  have HNew := Lib.hid hT.1.2
  have HSiz := Lib.hid (show ∀ q ∈ appP (prs bs zn) l1, tsize q.2 ≤ 200 from fun q hq => by
    obtain ⟨q0, h0, rfl⟩ := List.mem_map.1 hq
    show tsize (app (prs bs zn) q0.2) ≤ 200
    have hk := (HOk1.out.2.2 q0.2 (List.mem_cons_of_mem _ (List.mem_map.2 ⟨q0, h0, rfl⟩))).2.2.1
    rw [app_sub, size_subV q0.2 fun y hy => ?_]
    · exact hk
    · by_cases hyb : y ∈ bs
      · obtain ⟨z, _, e⟩ := ty_prs_in bs zn y HNew.out.1.1.symm hyb; exact ⟨z, e⟩
      · exact ⟨y, ty_prs_out bs zn y hyb⟩)
  generalize set5 W w.heap.size (.slice za zn.length zc) (.slice zp l1.length zq) (.int .i64 (app (prs bs zn) t).kind) (.string (app (prs bs zn) t).name) (.slice zt (app (prs bs zn) t).kids.length zu) = W4 at *
  clear hW hT H3 HSz
  obtain ⟨u, hu⟩ : ∃ u, app (prs bs zn) t = u := ⟨_, rfl⟩
  obtain ⟨lm, hlm⟩ : ∃ l, appP (prs bs zn) l1 = l := ⟨_, rfl⟩
  have HU := Lib.hid hu
  have HM := Lib.hid hlm
  rw [hu, hlm] at H4
  rw [hlm] at HSiz hlq
  rw [← hlq] at H4
  clear hu hlm
  have hlm12 : lm.length ≤ 12 := by omega
  obtain ⟨v0, v1, v2, v3, v4⟩ := cells5 H4.out.1.1.1
  rw [hlq] at v1
  simp only [gchFr]
  simp only [Array.getD_eq_getD_getElem?, List.getElem?_toArray, List.getElem?_cons_succ, List.getElem?_cons_zero, Option.getD_some]
  have HSP := Lib.hid (sortPreds_any lm _ W4 H4.out.2 (fun q hq => by have := HSiz.out q hq; omega) (fun q hq => fits_small (by have := HSiz.out q hq; omega)) hlm12)
  rw [hlq] at HSP
  have Hlq := Lib.hid hlq
  clear hlq
  go_wp2_with (go_at_call 19; fail)
  refine HSP.out.mono ?_
  rintro e w5 ⟨⟨ks2, sa, sc, rfl, hp5, hs5, hm5⟩, hb5⟩
  have hsr5 := srtP_of hs5
  have hkl5 : (ks2.map prOf).length = ks2.length := List.length_map ..
  rw [← hkl5] at hp5 ⊢
  generalize ks2.map prOf = l2 at hp5 hm5 hsr5
  have HC2 := Lib.hid (And.intro hsr5 hm5)
  have HP5 := Lib.hid hp5
  have H5 := Lib.hid (H4.out.1.below hb5)
  have f1 := Lib.frozen_of_heap H5.out.1.1 1
  have H6 := Lib.hid (H5.out.set1 (cv' := .slice sa l2.length sc) (show w.heap.size + 1 ≠ w.heap.size by omega) (Nat.le_refl _))
  have HP6 := Lib.hid (prs_set (o := 1) (v := .slice sa l2.length sc) H5.out.1 HP5.out)
  clear v0 v1 v2 v3 v4 hp5 hs5 hm5 hsr5 hkl5
  obtain ⟨v0, v1, v2, v3, v4⟩ := cells5 H5.out.1.1
  rw [Hlq.out] at v1
  obtain ⟨u0, u1, u2, u3, u4⟩ := cells5 H6.out.1.1
  obtain ⟨t0, t1, t2, t3, t4⟩ := cells5 H6.out.2.1
  have g0 := Lib.frozen_of_heap H6.out.2.1 0; have g1 := Lib.frozen_of_heap H6.out.2.1 1; have g2 := Lib.frozen_of_heap H6.out.2.1 2; have g3 := Lib.frozen_of_heap H6.out.2.1 3; have g4 := Lib.frozen_of_heap H6.out.2.1 4
  have HL := Lib.hid (cells5 (set5_block H6.out.2.1 (.slice za zn.length zc) (.slice sa l2.length sc) (.int .i64 u.kind) (.string u.name) (.slice zt u.kids.length zu)))
  have HE := Lib.hid (H6.out.copy (show w.heap.size ≤ w.heap.size + 1 by omega))
  have HEP := Lib.hid (prs_set50 H6.out.2.1 HP6.out (.slice za zn.length zc) (.slice sa l2.length sc) (.int .i64 u.kind) (.string u.name) (.slice zt u.kids.length zu))
  clear hb5 H4 H5 H6 HSP HP5 HP6
  go_wp2_with (fail)
  have hc := HL.out
  unfold set5 at hc
  refine bodyPost_ret (v := .agg #[.slice za zn.length zc, .slice sa l2.length sc, .int .i64 u.kind, .string u.name, .slice zt u.kids.length zu]) (by simp [results, Tryz.results12, go_sem, hc.1, hc.2.1, hc.2.2.1, hc.2.2.2.1, hc.2.2.2.2]) rfl ⟨⟨zn, u, l2, za, zc, sa, sc, zt, zu, rfl, ⟨HE.out.1, HEP.out, HE.out.2.1⟩, l1, HC1.out.1, HC1.out.2, ?_, ?_, HC2.out.1, ?_⟩, HE.out.2.2⟩
  · rw [HB.out, HO.out]; exact HNew.out
  · rw [HB.out]; exact HU.out.symm
  · rw [HB.out, HM.out]; exact HC2.out.2
end Go.Proofs.YtjnlchhikdfifaaGreatDoor
/- scheme.Same. -/
namespace Go.Proofs.YtjnlchhikdfifaaGreatDoor
open Go.RowKit Go.Sort Go.Lib
attribute [local go_sem] Oper.semAt_some

theorem equalP_any (l m : List Pr) (H : ∀ q ∈ l, Fits q.2) (a b : Option Addr) (c d : Nat) (w : World) (h : PrsAt w (.slice a l.length c) l) (h' : PrsAt w (.slice b m.length d) m) (hn : l.length ≤ 1000000) :
    Calls Tryz.prog 51 #[.slice a l.length c, .slice b m.length d, .func (.func 46) #[] #[]] w fun e w' => e = .returned (.bool (eqB l m)) ∧ Below w.heap.size w w' := by
  obtain ⟨ls, e1, h1⟩ := PV.of_prs h
  obtain ⟨ms, e2, h2⟩ := PV.of_prs h'
  have l1 : ls.length = l.length := by rw [← e1]; simp
  have l2 : ms.length = m.length := by rw [← e2]; simp
  rw [← l1] at h1 ⊢
  rw [← l2] at h2 ⊢
  rw [← e1, ← e2]
  exact equalF_any ls ms (fun x hx => H (prOf x) (by rw [← e1]; exact List.mem_map.2 ⟨x, hx, rfl⟩)) a b c d w h1 h2 (by omega)
/-- What is handed to Canon. -/
def SmD (t : T) (lc : List Pr) (xs : List ByteArray) (ta ca xa : Option Addr) (tc cc xc : Nat) (V : World) : Prop := TextsAt V (.slice xa xs.length xc) xs ∧ PrsAt V (.slice ca lc.length cc) lc ∧ TysAt V (.slice ta t.kids.length tc) t.kids
theorem SmD.keepO {t : T} {lc : List Pr} {xs : List ByteArray} {ta ca xa : Option Addr} {tc cc xc : Nat} {V Y : World} (h : SmD t lc xs ta ca xa tc cc xc V) (hk : KeepO V Y) : SmD t lc xs ta ca xa tc cc xc Y :=
  ⟨h.1.keep fun k cs fz hh => hk k cs _ fz (by decide) hh, h.2.1.keep (fun k cs fz hh => hk k cs _ fz (by decide) hh) (fun k cs fz hh => hk k cs _ fz (by decide) hh), h.2.2.keep fun k cs fz hh => hk k cs _ fz (by decide) hh⟩
/-- What Canon hands back. -/
def SmP (t : T) (lc : List Pr) (xs : List ByteArray) (za : Option Addr) (zn zc : Nat) (zp : Option Addr) (zm zq : Nat) (zk : Int) (zs : ByteArray) (zt : Option Addr) (zj zu : Nat) (V : World) : Prop :=
  ∃ (zl : List ByteArray) (u : T) (l2 : List Pr), (zn = zl.length ∧ zm = l2.length ∧ zk = u.kind ∧ zs = u.name ∧ zj = u.kids.length) ∧ SmD u l2 zl zt zp za zu zq zc V ∧ CanP t lc xs zl u l2
theorem SmP.keepO {t : T} {lc : List Pr} {xs : List ByteArray} {za : Option Addr} {zn zc : Nat} {zp : Option Addr} {zm zq : Nat} {zk : Int} {zs : ByteArray} {zt : Option Addr} {zj zu : Nat} {V Y : World} (h : SmP t lc xs za zn zc zp zm zq zk zs zt zj zu V) (hk : KeepO V Y) : SmP t lc xs za zn zc zp zm zq zk zs zt zj zu Y := by
  obtain ⟨zl, u, l2, h1, h2, h3⟩ := h; exact ⟨zl, u, l2, h1, h2.keepO hk, h3⟩
theorem canonS_any (V0 : List ByteArray) (t : T) (lc : List Pr) (xs : List ByteArray) (hok : SOK V0 t lc) (hxs : ∀ n ∈ xs, n.size ≤ 1000000) (hxl : xs.length ≤ 1000000) (ta ca xa : Option Addr) (tc cc xc : Nat) (w : World) (h : SmD t lc xs ta ca xa tc cc xc w) :
    Calls Tryz.prog 12 #[.agg #[.slice xa xs.length xc, .slice ca lc.length cc, .int .i64 t.kind, .string t.name, .slice ta t.kids.length tc]] w fun e w' =>
      (∃ (za : Option Addr) (zn zc : Nat) (zp : Option Addr) (zm zq : Nat) (zk : Int) (zs : ByteArray) (zt : Option Addr) (zj zu : Nat), e = .returned (.agg #[.slice za zn zc, .slice zp zm zq, .int .i64 zk, .string zs, .slice zt zj zu]) ∧ SmP t lc xs za zn zc zp zm zq zk zs zt zj zu w') ∧ Below w.heap.size w w' := by
  refine (canonG_any V0 t lc xs hok hxs hxl xa ca ta xc cc tc w h.2.2 h.1 h.2.1).mono ?_
  rintro e w' ⟨⟨zn, u, l2, za, zc, zp, zq, zt, zu, rfl, ⟨h1, h2, h3⟩, hc⟩, hb⟩
  exact ⟨⟨za, zn.length, zc, zp, l2.length, zq, u.kind, u.name, zt, u.kids.length, zu, rfl, zn, u, l2, ⟨rfl, rfl, rfl, rfl, rfl⟩, ⟨h1, h2, h3⟩, hc⟩, hb⟩
set_option maxRecDepth 100000 in
set_option maxHeartbeats 8000000 in
theorem sameG_any (V1 V2 : List ByteArray) (t s : T) (lc ld : List Pr) (xs ys : List ByteArray) (hok1 : SOK V1 t lc) (hok2 : SOK V2 s ld) (hxs : ∀ n ∈ xs, n.size ≤ 1000000) (hxl : xs.length ≤ 1000000) (hys : ∀ n ∈ ys, n.size ≤ 1000000) (hyl : ys.length ≤ 1000000) (ta ca xa sa da ya : Option Addr) (tc cc xc sc dc yc : Nat) (w : World) (h1 : SmD t lc xs ta ca xa tc cc xc w) (h2 : SmD s ld ys sa da ya sc dc yc w) :
    Calls Tryz.prog 23 #[.agg #[.slice xa xs.length xc, .slice ca lc.length cc, .int .i64 t.kind, .string t.name, .slice ta t.kids.length tc], .agg #[.slice ya ys.length yc, .slice da ld.length dc, .int .i64 s.kind, .string s.name, .slice sa s.kids.length sc]] w fun e w' =>
      (∃ (zl yl : List ByteArray) (u v : T) (l2 m2 : List Pr), e = .returned (.bool (eqB zl yl && (eqB l2 m2 && cmpT u v == 0))) ∧ CanP t lc xs zl u l2 ∧ CanP s ld ys yl v m2) ∧ Below w.heap.size w w' := by
  have hb0 := below_two w (.cells #[.slice xa xs.length xc, .slice ca lc.length cc, .int .i64 t.kind, .string t.name, .slice ta t.kids.length tc] 33) (.cells #[.slice ya ys.length yc, .slice da ld.length dc, .int .i64 s.kind, .string s.name, .slice sa s.kids.length sc] 33)
  have n1 := (Below.heap_alloc (w.alloc (.cells #[.slice xa xs.length xc, .slice ca lc.length cc, .int .i64 t.kind, .string t.name, .slice ta t.kids.length tc] 33)) (.cells #[.slice ya ys.length yc, .slice da ld.length dc, .int .i64 s.kind, .string s.name, .slice sa s.kids.length sc] 33) w.heap.size (by simp)).trans (alloc_new w _)
  have n2 := new_two w (.cells #[.slice xa xs.length xc, .slice ca lc.length cc, .int .i64 t.kind, .string t.name, .slice ta t.kids.length tc] 33) (.cells #[.slice ya ys.length yc, .slice da ld.length dc, .int .i64 s.kind, .string s.name, .slice sa s.kids.length sc] 33)
  have hk0 := KeepO.of_below hb0
  have H0 := Lib.hid (And.intro (And.intro (h1.keepO hk0) (h2.keepO hk0)) (And.intro hb0 (And.intro n1 n2)))
  have HO1 := Lib.hid hok1; have HO2 := Lib.hid hok2; have HX := Lib.hid hxs; have HY := Lib.hid hys
  clear h1 h2 hb0 n1 n2 hk0 hok1 hok2 hxs hys
  go_enter Tryz.func23, Tryz.ntmps23
  go_wp2_with fail
  refine sme_here (w := w) (b2 := w.heap.size) (b3 := w.heap.size + 1) (D := fun V => SmD t lc xs ta ca xa tc cc xc V ∧ SmD s ld ys sa da ya sc dc yc V) (PA := SmP t lc xs) (PB := SmP s ld ys)
    (fun V Y hk h => ⟨h.1.keepO hk, h.2.keepO hk⟩) (fun _ _ _ _ _ _ _ _ _ _ _ V Y hk h => h.keepO hk) (fun _ _ _ _ _ _ _ _ _ _ _ V Y hk h => h.keepO hk) (Nat.le_refl _) (by omega) (by omega)
    (fun V h => canonS_any V1 t lc xs HO1.out HX.out hxl ta ca xa tc cc xc V h.1) (fun V h => canonS_any V2 s ld ys HO2.out HY.out hyl sa da ya sc dc yc V h.2)
    _ (by kernel_rfl) (by kernel_rfl) (by kernel_rfl) (by kernel_rfl) ⟨⟨H0.out.1.1.keepO (KeepO.of_below (below_d _)), H0.out.1.2.keepO (KeepO.of_below (below_d _))⟩, ⟨_, H0.out.2.2.1⟩, ⟨_, H0.out.2.2.2⟩, H0.out.2.1.drew⟩ H0.out.2.2.1 H0.out.2.2.2 ?_
  intro x V za zn zc zp zm zq zk zs zt zj zu ya' yn yc' yp ym yq yk ys' yt yj yu hS hA hB hb2 hb3
  obtain ⟨zl, u, l2, ⟨rfl, rfl, rfl, rfl, rfl⟩, hdA, hcA⟩ := hA
  obtain ⟨yl, v, m2, ⟨rfl, rfl, rfl, rfl, rfl⟩, hdB, hcB⟩ := hB
  have hA := canP_ok HO1.out hcA
  have hB := canP_ok HO2.out hcB
  have hl2 : l2.length ≤ 1000000 := by omega
  have hzl : zl.length ≤ 1000000000 := by omega
  have HA := Lib.hid hA
  have HCan := Lib.hid (And.intro hcA hcB)
  have HD := Lib.hid (And.intro hdA (And.intro hdB hS.2.2.2))
  have HBk := Lib.hid (And.intro hb2 hb3)
  obtain ⟨c0, c1, c2, c3, c4⟩ := cells5 hb2
  obtain ⟨d0, d1, d2, d3, d4⟩ := cells5 hb3
  have HEq1 := Lib.hid (equalT_any zl yl hzl za ya' zc yc' V hdA.1 hdB.1)
  clear hcA hcB hdA hdB hS hA hB H0 HO1 HO2 HX HY hb2 hb3
  simp only [smeFr]
  simp only [Array.getD_eq_getD_getElem?, List.getElem?_toArray, List.getElem?_cons_succ, List.getElem?_cons_zero, Option.getD_some]
  go_wp2_with (go_at_call 50; fail)
  refine HEq1.out.mono ?_
  rintro e w1 ⟨rfl, hb1⟩
  have HB1 := Lib.hid hb1
  have hE2 := equalP_any l2 m2 (fun q hq => fits_small (by have := HA.out.2.1 q hq; omega)) zp yp zq yq w1 (HD.out.1.2.1.belowG hb1) (HD.out.2.1.2.1.belowG hb1) hl2
  have HEq2 := Lib.hid hE2
  have k2 := (hb1.block _ (Array.getElem?_eq_some_iff.1 HBk.out.1).1).trans HBk.out.1
  have k3 := (hb1.block _ (Array.getElem?_eq_some_iff.1 HBk.out.2).1).trans HBk.out.2
  have HBk1 := Lib.hid (And.intro k2 k3)
  clear c0 c1 c2 c3 c4 d0 d1 d2 d3 d4 hE2 hb1
  obtain ⟨c0, c1, c2, c3, c4⟩ := cells5 k2
  obtain ⟨d0, d1, d2, d3, d4⟩ := cells5 k3
  clear k2 k3 HEq1
  cases q1 : eqB zl yl with
  | false =>
    have hr : (eqB zl yl && (eqB l2 m2 && cmpT u v == 0)) = false := by rw [q1]; rfl
    have HE := Lib.hid (HD.out.2.2.trans (HB1.out.mono HD.out.2.2.size))
    have HR := Lib.hid hr
    clear hr q1 HEq2
    go_wp2_with fail
    go_ret
    exact ⟨⟨zl, yl, u, v, l2, m2, by rw [HR.out]; rfl, HCan.out.1, HCan.out.2⟩, HE.out⟩
  | true =>
    have HQ1 := Lib.hid q1
    clear q1
    go_wp2_with (go_at_call 51; fail)
    refine HEq2.out.mono ?_
    rintro e w2 ⟨rfl, hb2⟩
    have hb12 := HB1.out.trans (hb2.mono HB1.out.size)
    have HB2 := Lib.hid hb12
    have hE3 := same_any (t := u) (t' := v) (v := .slice zt u.kids.length zu) (v' := .slice yt v.kids.length yu) (w := w2) (fits_small (by have := HA.out.1; omega)) (HD.out.1.2.2.keep (KeepT.of_below hb12)) (HD.out.2.1.2.2.keep (KeepT.of_below hb12))
    have HEq3 := Lib.hid hE3
    have k2 := (hb2.block _ (Array.getElem?_eq_some_iff.1 HBk1.out.1).1).trans HBk1.out.1
    have k3 := (hb2.block _ (Array.getElem?_eq_some_iff.1 HBk1.out.2).1).trans HBk1.out.2
    clear c0 c1 c2 c3 c4 d0 d1 d2 d3 d4 hE3 hb2 hb12 HEq2
    obtain ⟨c0, c1, c2, c3, c4⟩ := cells5 k2
    obtain ⟨d0, d1, d2, d3, d4⟩ := cells5 k3
    clear k2 k3
    cases q2 : eqB l2 m2 with
    | false =>
      have hr : (eqB zl yl && (eqB l2 m2 && cmpT u v == 0)) = false := by rw [HQ1.out, q2]; rfl
      have HE := Lib.hid (HD.out.2.2.trans (HB2.out.mono HD.out.2.2.size))
      have HR := Lib.hid hr
      clear hr q2 HEq3
      go_wp2_with fail
      go_ret
      exact ⟨⟨zl, yl, u, v, l2, m2, by rw [HR.out]; rfl, HCan.out.1, HCan.out.2⟩, HE.out⟩
    | true =>
      have hr : (eqB zl yl && (eqB l2 m2 && cmpT u v == 0)) = (cmpT u v == 0) := by rw [HQ1.out, q2]; rfl
      simp only [tyV] at HEq3
      obtain ⟨r, hr2⟩ : ∃ r, (cmpT u v == 0) = r := ⟨_, rfl⟩
      rw [hr2] at HEq3
      have HR := Lib.hid (hr.trans hr2)
      clear hr hr2 q2
      go_wp2_with (go_at_call 52; fail)
      refine HEq3.out.mono ?_
      rintro e w3 ⟨rfl, hb3⟩
      have HE := Lib.hid (HD.out.2.2.trans ((HB2.out.trans (hb3.mono HB2.out.size)).mono HD.out.2.2.size))
      clear hb3 HEq3 c0 c1 c2 c3 c4 d0 d1 d2 d3 d4
      go_wp2_with fail
      go_ret
      exact ⟨⟨zl, yl, u, v, l2, m2, by rw [HR.out]; rfl, HCan.out.1, HCan.out.2⟩, HE.out⟩
end Go.Proofs.YtjnlchhikdfifaaGreatDoor
/- paideiaref.SameScheme of two that are the same. -/
namespace Go.Proofs.YtjnlchhikdfifaaGreatDoor
open Go.RowKit Go.Sort Go.Lib
attribute [local go_sem] Oper.semAt_some

set_option maxRecDepth 100000 in
set_option maxHeartbeats 4000000 in
theorem refSame_any (t : T) (lc : List Pr) (xs : List ByteArray) (hft : Fits t) (hfc : ∀ q ∈ lc, Fits q.2) (hn : lc.length ≤ 1000000) (hx : xs.length ≤ 1000000) (ta ca xa sa da ya : Option Addr) (tc cc xc sc dc yc : Nat) (w : World) (h1 : SmD t lc xs ta ca xa tc cc xc w) (h2 : SmD t lc xs sa da ya sc dc yc w) :
    Calls Tryz.prog 10 #[.agg #[.slice xa xs.length xc, .slice ca lc.length cc, .int .i64 t.kind, .string t.name, .slice ta t.kids.length tc], .agg #[.slice ya xs.length yc, .slice da lc.length dc, .int .i64 t.kind, .string t.name, .slice sa t.kids.length sc]] w fun e w' => e = .returned (.bool true) ∧ Below w.heap.size w w' := by
  have hb0 := below_two w (.cells #[.slice xa xs.length xc, .slice ca lc.length cc, .int .i64 t.kind, .string t.name, .slice ta t.kids.length tc] 33) (.cells #[.slice ya xs.length yc, .slice da lc.length dc, .int .i64 t.kind, .string t.name, .slice sa t.kids.length sc] 33)
  have n1 := (Below.heap_alloc (w.alloc (.cells #[.slice xa xs.length xc, .slice ca lc.length cc, .int .i64 t.kind, .string t.name, .slice ta t.kids.length tc] 33)) (.cells #[.slice ya xs.length yc, .slice da lc.length dc, .int .i64 t.kind, .string t.name, .slice sa t.kids.length sc] 33) w.heap.size (by simp)).trans (alloc_new w _)
  have n2 := new_two w (.cells #[.slice xa xs.length xc, .slice ca lc.length cc, .int .i64 t.kind, .string t.name, .slice ta t.kids.length tc] 33) (.cells #[.slice ya xs.length yc, .slice da lc.length dc, .int .i64 t.kind, .string t.name, .slice sa t.kids.length sc] 33)
  have hk0 := KeepO.of_below hb0
  have H0 := Lib.hid (And.intro (h1.keepO hk0) (And.intro (h2.keepO hk0) hb0))
  have HT := Lib.hid (fun V (h1 : TextsAt V (.slice xa xs.length xc) xs) (h2 : TextsAt V (.slice ya xs.length yc) xs) => (by have := sameTexts_any xs xs (by omega) xa ya xc yc V h1 h2; rwa [eqB_true rfl] at this : Calls Tryz.prog 13 #[.slice xa xs.length xc, .slice ya xs.length yc] V fun e w' => e = .returned (.bool true) ∧ Below V.heap.size V w'))
  have HP := Lib.hid (fun V (h1 : PrsAt V (.slice ca lc.length cc) lc) (h2 : PrsAt V (.slice da lc.length dc) lc) => (by have := samePreds_of lc lc hfc ca da cc dc V h1 h2 (by omega); rwa [eqB_true rfl] at this : Calls Tryz.prog 18 #[.slice ca lc.length cc, .slice da lc.length dc] V fun e w' => e = .returned (.bool true) ∧ Below V.heap.size V w'))
  have HY := Lib.hid (fun V (h1 : TysAt V (.slice ta t.kids.length tc) t.kids) (h2 : TysAt V (.slice sa t.kids.length sc) t.kids) => (by have := sameType_any hft h1 h2; rw [eqB_true rfl] at this; exact this : Calls Tryz.prog 35 #[.agg #[.int .i64 t.kind, .string t.name, .slice ta t.kids.length tc], .agg #[.int .i64 t.kind, .string t.name, .slice sa t.kids.length sc]] V fun e w' => e = .returned (.bool true) ∧ Below V.heap.size V w'))
  have HBk := Lib.hid (And.intro n1 n2)
  clear h1 h2 hb0 n1 n2 hk0 hft hfc
  go_enter Tryz.func10, Tryz.ntmps10
  go_wp2_with (go_at_call 13; fail)
  refine (HT.out _ H0.out.1.1 H0.out.2.1.1).mono ?_
  rintro e w1 ⟨rfl, hb1⟩
  have k1 := (hb1.block _ (Array.getElem?_eq_some_iff.1 HBk.out.1).1).trans HBk.out.1
  have k2 := (hb1.block _ (Array.getElem?_eq_some_iff.1 HBk.out.2).1).trans HBk.out.2
  have H1 := Lib.hid (And.intro (H0.out.1.keepO (KeepO.of_below hb1)) (And.intro (H0.out.2.1.keepO (KeepO.of_below hb1)) (H0.out.2.2.trans (hb1.mono H0.out.2.2.size))))
  have HBk1 := Lib.hid (And.intro k1 k2)
  obtain ⟨c0, c1, c2, c3, c4⟩ := cells5 k1
  obtain ⟨d0, d1, d2, d3, d4⟩ := cells5 k2
  clear k1 k2 hb1 HT H0 HBk
  go_wp2_with (go_at_call 18; fail)
  refine (HP.out _ H1.out.1.2.1 H1.out.2.1.2.1).mono ?_
  rintro e w2 ⟨rfl, hb1⟩
  have k1 := (hb1.block _ (Array.getElem?_eq_some_iff.1 HBk1.out.1).1).trans HBk1.out.1
  have k2 := (hb1.block _ (Array.getElem?_eq_some_iff.1 HBk1.out.2).1).trans HBk1.out.2
  have H2 := Lib.hid (And.intro (H1.out.1.keepO (KeepO.of_below hb1)) (And.intro (H1.out.2.1.keepO (KeepO.of_below hb1)) (H1.out.2.2.trans (hb1.mono H1.out.2.2.size))))
  clear c0 c1 c2 c3 c4 d0 d1 d2 d3 d4
  obtain ⟨c0, c1, c2, c3, c4⟩ := cells5 k1
  obtain ⟨d0, d1, d2, d3, d4⟩ := cells5 k2
  clear k1 k2 hb1 HP H1 HBk1
  go_wp2_with (go_at_call 35; fail)
  refine (HY.out _ H2.out.1.2.2 H2.out.2.1.2.2).mono ?_
  rintro e w3 ⟨rfl, hb1⟩
  have HE := Lib.hid (H2.out.2.2.trans (hb1.mono H2.out.2.2.size))
  clear hb1 HY H2 c0 c1 c2 c3 c4 d0 d1 d2 d3 d4
  go_wp2_with fail
  go_ret
  exact ⟨rfl, HE.out⟩
end Go.Proofs.YtjnlchhikdfifaaGreatDoor
/- SchemeNames: plain facts: variables in their order, renamed; contexts in order. -/
namespace Go.Proofs.YtjnlchhikdfifaaGreatDoor
open Go.RowKit Go.Sort Go.Lib
attribute [local go_sem] Oper.semAt_some

open Classical in
/-- One more, if it is new. -/
noncomputable def addV (out : List ByteArray) (x : ByteArray) : List ByteArray := if x ∈ out then out else out ++ [x]
noncomputable def addAll (out xs : List ByteArray) : List ByteArray := xs.foldl addV out
theorem addAll_nil (out : List ByteArray) : addAll out [] = out := rfl
theorem addAll_cons (out xs : List ByteArray) (x : ByteArray) : addAll out (x :: xs) = addAll (addV out x) xs := rfl
theorem addAll_append (out xs ys : List ByteArray) : addAll out (xs ++ ys) = addAll (addAll out xs) ys := List.foldl_append
theorem addAll_seen : ∀ (xs out : List ByteArray), (∀ x ∈ xs, x ∈ out) → addAll out xs = out
  | [], _, _ => rfl
  | x :: xs, out, h => by
    rw [addAll_cons, addV, if_pos (h x (List.mem_cons_self ..))]
    exact addAll_seen xs out fun y hy => h y (List.mem_cons_of_mem _ hy)
theorem addAll_mem : ∀ (xs out : List ByteArray) (y : ByteArray), y ∈ addAll out xs ↔ y ∈ out ∨ y ∈ xs
  | [], out, y => by simp [addAll_nil]
  | x :: xs, out, y => by
    rw [addAll_cons, addAll_mem xs _ y, addV]
    split
    · rename_i h
      simp only [List.mem_cons]
      exact ⟨fun e => e.imp id .inr, fun e => e.elim .inl fun e => e.elim (fun e => .inl (e ▸ h)) .inr⟩
    · simp only [List.mem_append, List.mem_cons, List.not_mem_nil, or_false]
      exact or_assoc
theorem addAll_map {f : ByteArray → ByteArray} : ∀ (xs out : List ByteArray), (∀ x y, (x ∈ out ∨ x ∈ xs) → (y ∈ out ∨ y ∈ xs) → f x = f y → x = y) → addAll (out.map f) (xs.map f) = (addAll out xs).map f
  | [], _, _ => rfl
  | x :: xs, out, h => by
    rw [List.map_cons, addAll_cons, addAll_cons]
    have hm : f x ∈ out.map f ↔ x ∈ out := ⟨fun e => by
      obtain ⟨y, hy, e⟩ := List.mem_map.1 e
      rw [← h y x (.inl hy) (.inr (List.mem_cons_self ..)) e]; exact hy, fun e => List.mem_map.2 ⟨x, e, rfl⟩⟩
    have hv : addV (out.map f) (f x) = (addV out x).map f := by
      unfold addV
      by_cases e : x ∈ out
      · rw [if_pos e, if_pos (hm.2 e)]
      · rw [if_neg e, if_neg (fun q => e (hm.1 q)), List.map_append]; rfl
    rw [hv]
    refine addAll_map xs (addV out x) fun a b ha hb e => h a b ?_ ?_ e
    · rcases ha with ha | ha
      · unfold addV at ha; split at ha
        · exact .inl ha
        · rcases List.mem_append.1 ha with ha | ha
          · exact .inl ha
          · rw [List.mem_singleton.1 ha]; exact .inr (List.mem_cons_self ..)
      · exact .inr (List.mem_cons_of_mem _ ha)
    · rcases hb with hb | hb
      · unfold addV at hb; split at hb
        · exact .inl hb
        · rcases List.mem_append.1 hb with hb | hb
          · exact .inl hb
          · rw [List.mem_singleton.1 hb]; exact .inr (List.mem_cons_self ..)
      · exact .inr (List.mem_cons_of_mem _ hb)
theorem vss_flat : ∀ l : List T, vss l = l.flatMap vs
  | [] => rfl
  | a :: l => by rw [vss, vss_flat l]; rfl
theorem fvs_flat : ∀ (l : List T), (∀ u ∈ l, ∀ out, fv [] out u = addAll out (vs u)) → ∀ out, fvs [] out l = addAll out (vss l)
  | [], _, out => by rw [fvs, vss, addAll_nil]
  | a :: l, h, out => by
    rw [fvs, h a (List.mem_cons_self ..), fvs_flat l (fun u hu => h u (List.mem_cons_of_mem _ hu)), vss, addAll_append]
theorem fv_flat : ∀ u : T, Plain3 u → ∀ out, fv [] out u = addAll out (vs u) := by
  refine T.kidsInd fun u ih hp out => ?_
  cases u with
  | var n =>
    rw [fv, vs, addAll_cons, addAll_nil, addV]
    by_cases e : n ∈ out
    · rw [if_pos e, if_pos (.inr e)]
    · rw [if_neg e, if_neg (fun q => q.elim (fun q => nomatch q) e)]
  | con n l => rw [fv, vs]; exact fvs_flat l (fun k hk o => ih k hk (hp.kid hk) o) out
  | fn a b => rw [fv, vs, ih a (by simp [T.kids]) (hp.kid (by simp [T.kids])), ih b (by simp [T.kids]) (hp.kid (by simp [T.kids])), addAll_append]
  | all n a => exact absurd rfl hp.four
theorem fvs_flat3 (l : List T) (h : ∀ u ∈ l, Plain3 u) (out : List ByteArray) : fvs [] out l = addAll out (vss l) := fvs_flat l (fun u hu o => fv_flat u (h u hu) o) out
/-- Variables for variables: the variables come in the same order. -/
theorem vs_ren {σ : Sg} {f : ByteArray → ByteArray} : ∀ u : T, (∀ x ∈ vs u, σ x = .var (f x)) → vs (sub σ u) = (vs u).map f := by
  refine T.kidsInd fun u ih h => ?_
  have hl : ∀ l : List T, (∀ k ∈ l, k ∈ u.kids) → (∀ x ∈ vss l, σ x = .var (f x)) → vss (subs σ l) = (vss l).map f := by
    intro l
    induction l with
    | nil => intro _ _; rfl
    | cons a l ih2 =>
      intro hk hx
      rw [subs, vss, vss, List.map_append, ih a (hk a (List.mem_cons_self ..)) (fun x hx' => hx x (by rw [vss]; exact List.mem_append.2 (.inl hx'))), ih2 (fun k h => hk k (List.mem_cons_of_mem _ h)) (fun x hx' => hx x (by rw [vss]; exact List.mem_append.2 (.inr hx')))]
  cases u with
  | var n => rw [sub, h n (by simp [vs])]; rfl
  | con n l => rw [sub, vs, vs]; exact hl l (fun k h => h) (fun x hx => h x (by rw [vs]; exact hx))
  | fn a b => rw [sub, vs, vs, List.map_append, ih a (by simp [T.kids]) (fun x hx => h x (by rw [vs]; exact List.mem_append.2 (.inl hx))), ih b (by simp [T.kids]) (fun x hx => h x (by rw [vs]; exact List.mem_append.2 (.inr hx)))]
  | all n a => rw [sub, vs, vs]; exact ih a (by simp [T.kids]) (fun x hx => h x (by rw [vs]; exact hx))
/-- The variables of a context, in order. -/
def cs (l : List Pr) : List ByteArray := l.flatMap fun q => vs q.2
theorem vss_ctx (t : T) (l : List Pr) : vss (t :: l.map (·.2)) = vs t ++ cs l := by
  rw [vss, vss_flat]; unfold cs; rw [List.flatMap_map]
theorem fvs_ctx {t : T} {l : List Pr} (h : ∀ u ∈ t :: l.map (·.2), Plain3 u) : fvs [] [] (t :: l.map (·.2)) = addAll (addAll [] (vs t)) (cs l) := by
  rw [fvs_flat3 _ h, vss_ctx, addAll_append]
/-- Two that are less than one another are none: rows in order with the same members are one. -/
theorem strict_eqR {α : Type} {R : α → α → Prop} (ha : ∀ x y, R x y → ¬ R y x) : ∀ (l m : List α), l.Pairwise R → m.Pairwise R → (∀ x, x ∈ l ↔ x ∈ m) → l = m
  | [], [], _, _, _ => rfl
  | [], y :: m, _, _, h => nomatch (h y).2 (List.mem_cons_self ..)
  | x :: l, [], _, _, h => nomatch (h x).1 (List.mem_cons_self ..)
  | x :: l, y :: m, hl, hm, h => by
    obtain ⟨hx, hl'⟩ := List.pairwise_cons.1 hl
    obtain ⟨hy, hm'⟩ := List.pairwise_cons.1 hm
    have hself : ∀ z, ¬ R z z := fun z h => ha z z h h
    have hxy : x = y := by
      rcases List.mem_cons.1 ((h x).1 (List.mem_cons_self ..)) with e | hxm
      · exact e
      · rcases List.mem_cons.1 ((h y).2 (List.mem_cons_self ..)) with e | hyl
        · exact e.symm
        · exact absurd (hy x hxm) (ha _ _ (hx y hyl))
    subst hxy
    have hrest : l = m := strict_eqR ha l m hl' hm' fun z => by
      have hz := h z
      simp only [List.mem_cons] at hz
      constructor
      · intro hin
        rcases hz.1 (.inr hin) with rfl | h
        · exact absurd (hx _ hin) (hself _)
        · exact h
      · intro hin
        rcases hz.2 (.inr hin) with rfl | h
        · exact absurd (hy _ hin) (hself _)
        · exact h
    rw [hrest]
end Go.Proofs.YtjnlchhikdfifaaGreatDoor
