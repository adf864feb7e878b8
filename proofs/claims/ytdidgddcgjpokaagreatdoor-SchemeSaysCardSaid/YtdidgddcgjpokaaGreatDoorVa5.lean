/- Merged: GvVars, GvNew, ScCloR, ScFreR, ScRenR, ScRen, ScClo, ScCanR, ScCanS, ScCan, SpSP, GvSet, UfPure, UfMost, UfEnds, UfList, TyHas, UfGood, UfRThen, UfRBind, UfRUni, UfRAll, UfSee, MakeTypeN, MakeStepN, MakeAllN, UfLaws, SfA, FrP, SpMk, SpCopy, SsA, GvP, NyBef, NySrt, SsB. -/
import Derived.Test.YtdidgddcgjpokaaGreatDoorVa3
import Derived.Test.YtdidgddcgjpokaaGreatDoorVa4
import Derived.Test.YtdidgddcgjpokaaGreatDoorVa1
import Derived.Deep.RegionLaw
import Derived.Stop.RegionWithIn
import Derived.WalkKit
import Derived.LaidEql
import Derived.Deep.RegionWith
import Derived.Test.YtdidgddcgjpokaaGreatDoorProg
import Derived.Lib.Hide
import Derived.Test.YtdidgddcgjpokaaGreatDoorVa2
/- scheme.variables of a type and of a context. -/
namespace Go.Proofs.YtdidgddcgjpokaaGreatDoor
open Go.RowKit Go.Sort Go.Lib
attribute [local go_sem] Oper.semAt_some

def zerosT (n : Nat) : Array Value := madeCells (Value.agg #[.int .i64 0, .string ⟨#[]⟩, .slice none 0 0]).cells (n * 3)
theorem make_types (n : Nat) (hn : n ≤ 1000001) (W : World) :
    (Instr.makeSlice 29 (.int .i64 0) (.int .i64 (n : Int))).run Tryz.prog W = .ok (.slice (some ⟨W.heap.size, 0, none⟩) 0 n) (W.alloc (.cells (zerosT n) 31)) := by
  obtain ⟨i0, hi0, hz0, hz1, hz2⟩ := info_parts Tryz.infoTyS
  have hr := run_make (P := Tryz.prog) W 29 31 i0 _ Tryz.underlying29 hi0 hz0 .i64 .i64 0 n (Int.le_refl _) (by omega) (by rw [hz2]; omega) (by omega)
  simp only [Int.toNat_natCast, hz1] at hr
  exact hr
set_option maxRecDepth 100000 in
set_option maxHeartbeats 4000000 in
theorem varsG_any (t : T) (lc : List Pr) (hnm : ∀ u ∈ t :: lc.map (·.2), Nm u) (hs : tsizes (t :: lc.map (·.2)) ≤ 90000000) (hn : lc.length ≤ 1000000) (ta va : Option Addr) (tc vc : Nat) (w : World) (ht : TysAt w (.slice ta t.kids.length tc) t.kids) (hP : PrsAt w (.slice va lc.length vc) lc) :
    Calls Tryz.prog 38 #[.slice va lc.length vc, .agg #[.int .i64 t.kind, .string t.name, .slice ta t.kids.length tc]] w fun e w' =>
      (∃ v, e = .returned v ∧ TextsAt w' v (fvs [] [] (t :: lc.map (·.2)))) ∧ Below w.heap.size w w' := by
  obtain ⟨i0, hi, hz0, hz1, hz2⟩ := info_parts Tryz.infoTyS
  have lt : ∀ (k : Nat) (cs : Array Value) (fz : Nat × Nat), w.heap[k]? = some (.cells cs 31 fz) → k < w.heap.size := fun k _ _ hk => (Array.getElem?_eq_some_iff.1 hk).1
  have hmk : ∀ W : World, (Instr.makeSlice 29 (.int .i64 0) (.int .i64 (1 + (lc.length : Int)))).run Tryz.prog W = .ok (.slice (some ⟨W.heap.size, 0, none⟩) 0 (1 + lc.length)) (W.alloc (.cells (zerosT (1 + lc.length)) 31)) := fun W => by
    rw [show ((1 : Int) + (lc.length : Int)) = ((1 + lc.length : Nat) : Int) by omega]
    exact make_types (1 + lc.length) (by omega) W
  have HIn0 := Lib.hid (ht.inside lt)
  have HRow := Lib.hid (fun (i : Nat) (hi : i < lc.length) => (by obtain ⟨g, cap, e, hg, hc, hr⟩ := hP.row (by rintro rfl; cases hi); exact ⟨g, cap, e, hg, hc, hr i hi⟩ : ∃ g cap, Value.slice va lc.length vc = .slice (some ⟨g, 0, none⟩) lc.length cap ∧ g < w.heap.size ∧ lc.length ≤ cap ∧ ∃ a c, w.cell? ⟨g, i * 4, none⟩ = some (.string lc[i].1) ∧ w.cell? ⟨g, i * 4 + 1, none⟩ = some (.int .i64 lc[i].2.kind) ∧ w.cell? ⟨g, i * 4 + 2, none⟩ = some (.string lc[i].2.name) ∧ w.cell? ⟨g, i * 4 + 3, none⟩ = some (.slice a lc[i].2.kids.length c) ∧ TysAt w (.slice a lc[i].2.kids.length c) lc[i].2.kids))
  have HLt := Lib.hid lt
  have HV := Lib.hid (fun (a : Option Addr) (c : Nat) (W : World) (h : TysAt W (.slice a (t :: lc.map (·.2)).length c) (t :: lc.map (·.2))) => vars_any (t :: lc.map (·.2)) hnm (by omega) a c W h)
  clear ht hP lt hnm hs
  go_enter Tryz.func38, Tryz.ntmps38
  go_wp2_with (at_builtin; refine wpList_append_lies _ rfl _ _ 29 rfl w.heap.size 31 i0 (.agg #[.int .i64 0, .string ⟨#[]⟩, .slice none 0 0]) 3 48 Tryz.underlying29 hi hz0 hz1 hz2 rfl (by decide) _ 0 [] rfl ?own ⟨w.heap.size + 1 + 1, 0, none⟩ 1 1 [.int .i64 t.kind, .string t.name, .slice ta t.kids.length tc] rfl rfl ?news (by simp [Value.oneCell']) (by decide) ?c3 ?c4 ?c5 _ rfl ?_)
  case own =>
    have := World.ownsRow_made (base := w.heap.size) (e := 31) (size := 3) (w.alloc (.cells #[.int .i64 t.kind, .string t.name, .slice ta t.kids.length tc] 31)) (zerosT (1 + lc.length)) (1 + lc.length) (by simp) (by unfold maxLen; omega) (by unfold zerosT; rw [size_madeCells])
    have h2 := World.ownsRow.alloc this (.cells #[.int .i64 t.kind, .string t.name, .slice ta t.kids.length tc] 31)
    have e : (w.alloc (.cells #[.int .i64 t.kind, .string t.name, .slice ta t.kids.length tc] 31)).heap.size = w.heap.size + 1 := by simp
    rw [e] at h2
    exact h2
  case c3 => unfold maxLen; omega
  case c5 => first | omega | (simp; omega)
  intro g4 cap4 W4 hown4 hgr4 _ _
  have hb4 : Below w.heap.size w W4 := ((((Below.refl w.heap.size w).alloc (Nat.le_refl _) _).alloc (by simp) _).alloc (by simp; omega) _).grown hgr4 (by simp; omega) (fun k e => by simp [Value.ownBlock] at e; omega)
  have HI := Lib.hid (show ALI w [t] (.slice (some ⟨g4, 0, none⟩) (0 + 1) cap4) (0 + 1) W4 from ⟨⟨[(t, ta, tc)], ⟨rfl, rfl⟩, by simpa [cellsOf] using hown4, fun x hx => by rw [List.mem_singleton.1 hx]; exact HIn0.out⟩, hb4⟩)
  clear hown4 hgr4 hb4 HIn0 hmk
  go_wp2
  go_loopw [5, 18] (fun vo vi wr => ∃ (i n e : Nat) (b : Option Addr), i ≤ lc.length ∧ vi = .int .i64 i ∧ vo = .slice b n e ∧ Hid (ALI w (t :: (lc.take i).map (·.2)) (.slice b n e) n wr)) (fun _ vi _ => lc.length - (intOf vi).toNat)
  case atStart => exact ⟨0, 1, _, _, Nat.zero_le _, rfl, rfl, HI⟩
  case round =>
    obtain ⟨i, n, e, b, hi', rfl, rfl, hF⟩ := hrel
    clear HI
    by_cases hlt : i < lc.length
    · obtain ⟨⟨xs, ⟨hx1, rfl⟩, hrow, hbs⟩, hBl⟩ := hF.out
      obtain ⟨g, cap, he, hg, hcap, a, c, x0, x1, x2, x3, xk⟩ := HRow.out i hlt
      cases he
      have y1 := (hBl.cell (p := ⟨g, i * 4 + 1, none⟩) hg).trans x1
      have y2 := (hBl.cell (p := ⟨g, i * 4 + 2, none⟩) hg).trans x2
      have y3 := (hBl.cell (p := ⟨g, i * 4 + 3, none⟩) hg).trans x3
      have y0 := (hBl.cell (p := ⟨g, i * 4, none⟩) hg).trans x0
      have hxb : xs.length ≤ 1000001 := by have := congrArg List.length hx1; simp at this; omega
      have HTk := Lib.hid (show t :: (lc.take (i + 1)).map (·.2) = (t :: (lc.take i).map (·.2)) ++ [lc[i].2] by rw [List.take_succ_eq_append_getElem hlt, List.map_append]; rfl)
      have HX1 := Lib.hid hx1; have HIn := Lib.hid (xk.inside HLt.out)
      have HR := Lib.hid hrow; have HBs := Lib.hid hbs; have HBl := Lib.hid hBl
      have hz := hBl.size
      have hgz : g < wr.heap.size := by omega
      clear x0 x1 x2 x3 xk hx1 hrow hbs hBl hF HRow HV
      generalize lc[i] = u at *
      have hlt1 : ((i : Int) < (lc.length : Int)) := by omega
      go_wp2_with (at_builtin; refine wpList_append_lies _ rfl _ _ 29 rfl w.heap.size 31 i0 (.agg #[.int .i64 0, .string ⟨#[]⟩, .slice none 0 0]) 3 48 Tryz.underlying29 hi hz0 hz1 hz2 rfl (by decide) _ _ _ rfl ((HR.out.alloc _).alloc _) ⟨wr.heap.size + 1, 0, none⟩ 1 1 [.int .i64 u.2.kind, .string u.2.name, .slice a u.2.kids.length c] rfl rfl ?news2 (by simp [Value.oneCell']) (by decide) ?d3 ?d4 ?d5 _ rfl ?_)
      case d3 => unfold maxLen; omega
      case d4 => omega
      case d5 => first | omega | (simp; omega)
      intro g3 cap3 W3 hown3 hgrow hat3 hlt3
      have HO3 := Lib.hid hown3
      have HB3 := Lib.hid (((HBl.out.alloc hz _).alloc (by simp; omega) _).grown hgrow (by simp; omega) (fun j hj => (HR.out.lt j hj).1))
      clear hown3 hgrow hat3
      go_wp2
      go_roundw
      case rel =>
        refine ⟨i + 1, xs.length + 1, cap3, some ⟨g3, 0, none⟩, by omega, by go_num, rfl, Lib.hid ⟨⟨xs ++ [(u.2, a, c)], ⟨?_, by simp⟩, ?_, ?_⟩, HB3.out⟩⟩
        · rw [HTk.out, List.map_append, HX1.out]; rfl
        · rw [cellsOf_snoc, List.length_append]; exact HO3.out
        · intro y hy
          rcases List.mem_append.1 hy with hy | hy
          · exact HBs.out y hy
          · rw [List.mem_singleton.1 hy]; exact HIn.out
      case measure => simp [intOf]; omega
    · obtain rfl : i = lc.length := by omega
      rw [List.take_length] at hF
      obtain ⟨⟨xs, ⟨hx1, rfl⟩, hrow, hbs⟩, hBl⟩ := hF.out
      obtain ⟨LL, hLL⟩ : ∃ L, t :: lc.map (·.2) = L := ⟨_, rfl⟩
      have hxl : xs.length = (t :: lc.map (·.2)).length := by rw [← hx1]; simp
      have hin : TyIn (fun k => k < w.heap.size ∨ w.heap.size ≤ k) wr (.con ⟨#[]⟩ (t :: lc.map (·.2))) (.slice b xs.length e) := in_of_row (by rw [hx1]; rfl) hrow (fun g hg => .inr (hrow.lt g hg).1) (fun x hx => ((hbs x hx).keep fun k _ _ hk hh => (hBl.block k hk).trans hh).mono fun k hk => .inl hk)
      have ht := hin.tys
      rw [hxl] at ht
      have HC := Lib.hid (HV.out b e wr ht)
      have HB := Lib.hid hBl
      rw [← hxl] at HC
      clear hx1 hrow hbs hBl hin ht hF HRow HLt HV hxl
      rw [hLL] at HC
      have HLL := Lib.hid hLL
      clear hLL
      go_wp2_with (go_at_call 64; fail)
      refine HC.out.mono ?_
      rintro e' w5 ⟨⟨v, rfl, hv⟩, _, hb5⟩
      have HE := Lib.hid (And.intro hv (HB.out.trans (hb5.mono HB.out.size)))
      clear hv hb5 HC HB
      go_wp2
      go_ret
      exact ⟨⟨v, rfl, by rw [HLL.out]; exact HE.out.1⟩, HE.out.2⟩
end Go.Proofs.YtdidgddcgjpokaaGreatDoor
/- scheme.newNames: which names they are. -/
namespace Go.Proofs.YtdidgddcgjpokaaGreatDoor
open Go.RowKit Go.Maps
attribute [local go_sem] Oper.semAt_some

def NewX (n : Nat) (taken names : List ByteArray) : Prop := NewN n taken names ∧ ∃ i, i ≤ n + taken.length ∧ names = newsTo taken i
theorem newsTo_mono (taken : List ByteArray) : ∀ (k i : Nat), ∃ r, newsTo taken (i + k) = newsTo taken i ++ r
  | 0, i => ⟨[], by simp⟩
  | k + 1, i => by
    obtain ⟨r, e⟩ := newsTo_mono taken k i
    rw [← Nat.add_assoc, newsTo_succ, e]
    split
    · exact ⟨r, rfl⟩
    · exact ⟨r ++ [nameAt (i + k)], by rw [List.append_assoc]⟩
/-- So many names, and none that is taken: there is one row of them alone. -/
theorem newX_one {n : Nat} {tk tk' l m : List ByteArray} (hs : ∀ x, x ∈ tk ↔ x ∈ tk') (h : NewX n tk l) (k : NewX n tk' m) : l = m := by
  have he : ∀ j, newsTo tk j = newsTo tk' j := fun j => by
    unfold newsTo
    refine List.filter_congr fun x _ => ?_
    rw [Bool.eq_iff_iff, Bool.not_eq_true', Bool.not_eq_true', Bool.eq_false_iff, Bool.eq_false_iff, ne_eq, ne_eq, inB_iff, inB_iff, hs x]
  obtain ⟨⟨h1, _⟩, i, _, rfl⟩ := h
  obtain ⟨⟨k1, _⟩, j, _, rfl⟩ := k
  rw [← he] at k1 ⊢
  rcases Nat.le_total i j with hij | hij
  · obtain ⟨r, e⟩ := newsTo_mono tk (j - i) i
    rw [show i + (j - i) = j by omega] at e
    have : r.length = 0 := by have := congrArg List.length e; rw [List.length_append] at this; omega
    rw [e, List.length_eq_zero_iff.1 this, List.append_nil]
  · obtain ⟨r, e⟩ := newsTo_mono tk (i - j) j
    rw [show j + (i - j) = i by omega] at e
    have : r.length = 0 := by have := congrArg List.length e; rw [List.length_append] at this; omega
    rw [e, List.length_eq_zero_iff.1 this, List.append_nil]
set_option maxRecDepth 100000 in
set_option maxHeartbeats 4000000 in
theorem newNamesX_any (n : Nat) (taken : List ByteArray) (hn : n + taken.length ≤ 7) (hs : ∀ x ∈ taken, x.size ≤ 1000000) (a : Option Addr) (c : Nat) (w : World) (h : TextsAt w (.slice a taken.length c) taken) :
    Calls Tryz.prog 39 #[.int .i64 (n : Int), .slice a taken.length c] w fun e w' => (∃ v names, e = .returned v ∧ TextsAt w' v names ∧ NewX n taken names) ∧ Below w.heap.size w w' := by
  obtain ⟨i0, hi0, hz0, hz1, hz2⟩ := info_parts Tryz.infoStrS
  have hmk : ∀ W : World, (Instr.makeSlice 23 (.int .i64 0) (.int .i64 (n : Int))).run Tryz.prog W = .ok (.slice (some ⟨W.heap.size, 0, none⟩) 0 n) (W.alloc (.cells (madeCells #[.string ⟨#[]⟩] n) 9)) := fun W => by
    have hr := run_make (P := Tryz.prog) W 23 9 i0 _ Tryz.underlying23 hi0 hz0 .i64 .i64 0 n (Int.le_refl _) (by omega) (by rw [hz2]; omega) (by omega)
    simp only [Int.toNat_natCast, hz1, Nat.mul_one] at hr
    exact hr
  have HC := Lib.hid (fun (W : World) (hb : Below w.heap.size w W) => setOf_any taken (by omega) hs a c W (h.below hb))
  have HB0 := Lib.hid (Below.refl w.heap.size w)
  clear h hs
  go_enter Tryz.func39, Tryz.ntmps39
  go_wp2
  go_region_with (go_at_call 63; refine (HC.out _ (by first | exact (Below.refl _ w).drew | exact ((Below.refl _ w).drew).alloc (Nat.le_refl _) _)).mono ?_; rintro e w1 ⟨⟨M, rfl, hM, hMb⟩, hb1⟩; have HM := Lib.hid hM; have HB1 := Lib.hid hb1; clear hM hb1 hMb)
  all_goals
    have H0 := Lib.hid (show NewI w M taken.length taken 0 _ _ from by first | exact newI_a (n := n) (by omega) HM.out HB1.out | exact newI_b (n := n) (by omega) HM.out HB1.out)
    clear HM HB1
    go_wp2
    go_loopw [5, 7] (fun vv vi wr => ∃ i : Nat, vi = .int .i64 i ∧ Hid (i ≤ n + taken.length ∧ (newsTo taken i).length ≤ n) ∧ Hid (NewI w M taken.length taken i vv wr)) (fun _ vi _ => n + taken.length + 1 - (intOf vi).toNat)
    case atStart => exact ⟨0, rfl, Lib.hid ⟨by omega, Nat.zero_le _⟩, H0⟩
    case round =>
      obtain ⟨i, rfl, hi, hF⟩ := hrel
      clear H0
      obtain ⟨vo, hM, hb⟩ := hF.out
      obtain ⟨xa, xc, rfl⟩ := vo.shape
      have hcnt := newsTo_len taken i (by have := hi.out.1; omega)
      have hi1 := hi.out.1; have hi2 := hi.out.2
      have hsc := newsTo_succ taken i
      by_cases hlt : (newsTo taken i).length < n
      · have hltI : ((newsTo taken i).length : Int) < (n : Int) := by omega
        have hi7 : i < 7 := by omega
        have hlk := hM.look (nameAt i) (by show (1 : Nat) ≤ maxLen; unfold maxLen; omega)
        have hwz := hb.size
        have HVO := Lib.hid vo; have HM := Lib.hid hM; have HB := Lib.hid hb
        have HSC := Lib.hid (fun v (wr' : World) (h : OwnT w.heap.size v (if inB taken (nameAt i) = true then newsTo taken i else newsTo taken i ++ [nameAt i]) wr') (h2 : SetV M taken.length (inB taken) wr') (h3 : Below w.heap.size w wr') => (show NewI w M taken.length taken (i + 1) v wr' from ⟨by rw [hsc]; exact h, h2, h3⟩))
        have HLen := Lib.hid (newsTo_next (by omega) hlt hsc)
        have hmz : i < n + taken.length := by omega
        clear vo hM hb hF hcnt hi hi1 hi2 hsc
        have hpl : (newsTo taken i).length ≤ 7 := by omega
        generalize newsTo taken i = p at *
        obtain ⟨nm, hnm⟩ : ∃ nm, nameAt i = nm := ⟨_, rfl⟩
        have HN := Lib.hid (fun W => name_low i (by omega) W)
        rw [hnm] at HN hlk HSC
        clear hnm
        cases hin : inB taken nm with
        | true =>
          rw [hin] at hlk HSC
          simp only [if_true] at HSC
          go_wp2_with (go_at_call 21; refine (HN.out _).mono ?_; rintro e w' ⟨rfl, rfl⟩)
          have HE := Lib.hid (HSC.out _ _ (HVO.out.below ((Below.refl _ wr).alloc (Nat.le_refl _) (.cells #[] 95))) (HM.out.below ((Below.refl _ wr).alloc (Nat.le_refl _) (.cells #[] 95))) (HB.out.alloc HB.out.size _))
          go_roundw
          case rel => exact ⟨i + 1, by go_num, HLen, HE⟩
          case measure => simp [intOf]; omega
        | false =>
          rw [hin] at hlk HSC
          simp only [Bool.false_eq_true, if_false] at HSC
          go_wp2_with (first
            | (go_at_call 21; refine (HN.out _).mono ?_; rintro e w' ⟨rfl, rfl⟩)
            | (at_builtin; refine wpList_append_own_at _ rfl _ _ 23 rfl w.heap.size 9 i0 (.string ⟨#[]⟩) 1 16 Tryz.underlying23 hi0 hz0 hz1 hz2 rfl (by decide) _ _ _ rfl ((World.ownsRow.alloc HVO.out _).alloc _) ⟨wr.heap.size + 1, 0, none⟩ 1 1 [.string nm] rfl rfl (by have := cell_one_new (wr.alloc (.cells #[] 95)) (.string nm) 9; simpa using this) (by simp [Value.oneCell']) (by unfold maxLen; omega) (by omega) (by simp; omega) ?_; intro v4 W4 hown4 hgr4 _ hat4; obtain ⟨k1, k2, k3, k4, k5⟩ := grown_apart2 HVO.out (OwnT.nil w.heap.size wr) (apart_symm (.inl rfl)) HM.out HB.out (Nat.le_refl _) hown4 hgr4 hat4; have HE := Lib.hid (HSC.out v4 W4 k1 k4 k5); clear hown4 hgr4 hat4 k1 k2 k3 k4 k5))
          go_roundw
          case rel => exact ⟨i + 1, by go_num, HLen, HE⟩
          case measure => simp [intOf]; omega
      · have hltI : ¬ ((newsTo taken i).length : Int) < (n : Int) := by omega
        have hlen : (newsTo taken i).length = n := by omega
        have HE := Lib.hid (show TextsAt wr (.slice xa (newsTo taken i).length xc) (newsTo taken i) ∧ NewX n taken (newsTo taken i) ∧ Below w.heap.size w wr from ⟨vo.texts, ⟨⟨hlen, newsTo_nodup taken i (by omega), fun x hx => ⟨newsTo_free hx, newsTo_size hx⟩⟩, i, hi1, rfl⟩, hb⟩)
        clear vo hM hb hF hcnt hi hi1 hi2 hsc hlen
        generalize newsTo taken i = p at *
        go_wp2
        go_ret
        exact ⟨⟨_, rfl, p, HE.out.1, HE.out.2.1⟩, HE.out.2.2⟩
end Go.Proofs.YtdidgddcgjpokaaGreatDoor
/- scheme: its last statement, a region of 9 operations that draws its order, by an invariant. (Made by a program.) -/
namespace Go.Proofs.YtdidgddcgjpokaaGreatDoor
open Go.RowKit Go.Sort Go.Lib
attribute [local go_sem] Oper.semAt_some

end Go.Proofs.YtdidgddcgjpokaaGreatDoor
/- scheme: its last statement, a region of 13 operations that draws its order, by an invariant. (Made by a program.) -/
namespace Go.Proofs.YtdidgddcgjpokaaGreatDoor
open Go.RowKit Go.Sort Go.Lib
attribute [local go_sem] Oper.semAt_some

end Go.Proofs.YtdidgddcgjpokaaGreatDoor
/- scheme.rename: its last statement, a region of 11 operations that draws its order, by an invariant. (Made by a program.) -/
namespace Go.Proofs.YtdidgddcgjpokaaGreatDoor
open Go.RowKit Go.Sort Go.Lib
attribute [local go_sem] Oper.semAt_some

end Go.Proofs.YtdidgddcgjpokaaGreatDoor
/- scheme.rename: names in variables' places, in a scheme without a context. -/
namespace Go.Proofs.YtdidgddcgjpokaaGreatDoor
open Go.RowKit Go.Sort Go.Lib
attribute [local go_sem] Oper.semAt_some

end Go.Proofs.YtdidgddcgjpokaaGreatDoor
/- scheme.Close of a type without a context; scheme.Free. -/
namespace Go.Proofs.YtdidgddcgjpokaaGreatDoor
open Go.RowKit Go.Sort Go.Lib
attribute [local go_sem] Oper.semAt_some

end Go.Proofs.YtdidgddcgjpokaaGreatDoor
/- scheme: its last statement, a region of 13 operations that draws its order, by an invariant. (Made by a program.) -/
namespace Go.Proofs.YtdidgddcgjpokaaGreatDoor
open Go.RowKit Go.Sort Go.Lib
attribute [local go_sem] Oper.semAt_some

end Go.Proofs.YtdidgddcgjpokaaGreatDoor
/- scheme: its last statement, a region of 8 operations that draws its order, by an invariant. (Made by a program.) -/
namespace Go.Proofs.YtdidgddcgjpokaaGreatDoor
open Go.RowKit Go.Sort Go.Lib
attribute [local go_sem] Oper.semAt_some

end Go.Proofs.YtdidgddcgjpokaaGreatDoor
/- scheme.Canon of a scheme without a context. -/
namespace Go.Proofs.YtdidgddcgjpokaaGreatDoor
open Go.RowKit Go.Sort Go.Lib
attribute [local go_sem] Oper.semAt_some

theorem SchB.set1 {b : Nat} {xv cv cv' : Value} {t : T} {ta : Option Addr} {tc : Nat} {V : World} (h : SchB b xv cv t ta tc V) : SchB b xv cv' t ta tc (V.setCell ⟨b, 1, none⟩ cv') :=
  ⟨blk_set (o := 1) h.1 cv', h.2.keep fun k cs fz hk => (Below.heap_setCell _ ⟨b, 1, none⟩ _ k (fun e => by
    have e' : k = b := e
    subst e'; rw [h.1] at hk; simp at hk)).trans hk⟩
theorem texts_set {b : Nat} {xv cv v : Value} {t : T} {ta : Option Addr} {tc o : Nat} {V : World} {u : Value} {l : List ByteArray} (h : SchB b xv cv t ta tc V) (hu : TextsAt V u l) : TextsAt (V.setCell ⟨b, o, none⟩ v) u l :=
  hu.keep fun k cs fz hk => (Below.heap_setCell _ ⟨b, o, none⟩ _ k (fun e => by
    have e' : k = b := e
    subst e'; rw [h.1] at hk; simp at hk)).trans hk
/-- A scheme in its block, and a block that is to hold one. -/
def SD (w : World) (b1 b2 : Nat) (xv cv : Value) (u : T) (zt : Option Addr) (zu : Nat) (ls : List ByteArray) (V : World) : Prop := SchB b1 xv cv u zt zu V ∧ Sch0 b2 V ∧ TextsAt V xv ls ∧ Below w.heap.size w V
theorem SD.below {w : World} {b1 b2 : Nat} {xv cv : Value} {u : T} {zt : Option Addr} {zu : Nat} {ls : List ByteArray} {V Y : World} (h : SD w b1 b2 xv cv u zt zu ls V) (hb : Below V.heap.size V Y) : SD w b1 b2 xv cv u zt zu ls Y := ⟨h.1.below hb, h.2.1.below hb, h.2.2.1.below hb, h.2.2.2.trans (hb.mono h.2.2.2.size)⟩
theorem SD.of5 {w W : World} {b1 b2 : Nat} {xv0 cv0 xv cv : Value} {t u : T} {ta zt : Option Addr} {tc zu : Nat} {ls : List ByteArray} (h1 : SchB b1 xv0 cv0 t ta tc W) (h2 : Sch0 b2 W) (h3 : TextsAt W xv ls) (h4 : TysAt W (.slice zt u.kids.length zu) u.kids) (hb : Below w.heap.size w W) (h12 : b2 ≠ b1) (hB : w.heap.size ≤ b1) : SD w b1 b2 xv cv u zt zu ls (set5 W b1 xv cv (.int .i64 u.kind) (.string u.name) (.slice zt u.kids.length zu)) :=
  ⟨⟨set5_block h1.1 _ _ _ _ _, h4.keep fun k cs fz hk => (set5_other _ _ _ _ _ _ _ (fun e => by subst e; rw [h1.1] at hk; simp at hk)).trans hk⟩, (set5_other _ _ _ _ _ _ _ h12).trans h2, h3.keep fun k cs fz hk => (set5_other _ _ _ _ _ _ _ (fun e => by subst e; rw [h1.1] at hk; simp at hk)).trans hk, below_set5 hb hB _ _ _ _ _⟩
theorem SD.set1 {w W : World} {b1 b2 : Nat} {xv cv cv' : Value} {u : T} {zt : Option Addr} {zu : Nat} {ls : List ByteArray} (h : SD w b1 b2 xv cv u zt zu ls W) (h12 : b2 ≠ b1) (hB : w.heap.size ≤ b1) : SD w b1 b2 xv cv' u zt zu ls (W.setCell ⟨b1, 1, none⟩ cv') :=
  ⟨h.1.set1, (Below.heap_setCell _ ⟨b1, 1, none⟩ _ _ h12).trans h.2.1, texts_set h.1 h.2.2.1, h.2.2.2.setCell (p := ⟨b1, 1, none⟩) hB _⟩
theorem SD.copy {w W : World} {b1 b2 : Nat} {xv cv : Value} {u : T} {zt : Option Addr} {zu : Nat} {ls : List ByteArray} (h : SD w b1 b2 xv cv u zt zu ls W) (hB : w.heap.size ≤ b2) : TextsAt (set5 W b2 xv cv (.int .i64 u.kind) (.string u.name) (.slice zt u.kids.length zu)) xv ls ∧ TysAt (set5 W b2 xv cv (.int .i64 u.kind) (.string u.name) (.slice zt u.kids.length zu)) (.slice zt u.kids.length zu) u.kids ∧ Below w.heap.size w (set5 W b2 xv cv (.int .i64 u.kind) (.string u.name) (.slice zt u.kids.length zu)) :=
  ⟨h.2.2.1.keep fun k cs fz hk => (set5_other _ _ _ _ _ _ _ (fun e => by subst e; rw [h.2.1] at hk; simp at hk)).trans hk, h.1.2.keep fun k cs fz hk => (set5_other _ _ _ _ _ _ _ (fun e => by subst e; rw [h.2.1] at hk; simp at hk)).trans hk, below_set5 h.2.2.2 hB _ _ _ _ _⟩
end Go.Proofs.YtdidgddcgjpokaaGreatDoor
/- scheme.SortPreds of at most twelve predicates: each once, in order. -/
namespace Go.Proofs.YtdidgddcgjpokaaGreatDoor
open Go.RowKit Go.Sort Go.Lib
attribute [local go_sem] Oper.semAt_some

/-- What SortPreds hands back: the same predicates, each once, in order. -/
def SpRes (l : List Pr) (w : World) (e : Ending) (w' : World) : Prop :=
  (∃ (ks : List PR) (a : Option Addr) (c : Nat), e = .returned (.slice a ks.length c) ∧ PrsAt w' (.slice a ks.length c) (ks.map prOf) ∧ ks.Pairwise (fun x y => cmpR x y < 0) ∧ ∀ q, q ∈ ks.map prOf ↔ q ∈ l) ∧ Below w.heap.size w w'
theorem sp_end {g cap : Nat} {l : List Pr} {ls d : List PR} {w w1 w2 w3 : World} (hg : w.heap.size ≤ g) (hm : ls.map prOf = l) (hr : RowG 55 g ls w1) (ht : Typ ls w1) (hb : Below w.heap.size w w1) (hd : LeTo d.length d) (hs : SrtI w1 g ls d w2) (hc : ls.length ≤ cap)
    (hk : RowG 55 g (keptUpTo (kpQ d.toArray) d.toArray d.length) w3) (hf : Fr g w2 w3) : SpRes l w (.returned (.slice (some ⟨g, 0, none⟩) (keptUpTo (kpQ d.toArray) d.toArray d.length).length cap)) w3 := by
  have hsz : d.toArray.size = d.length := by simp
  have hfr := hs.2.2.trans hf
  have hkT := hr.keepT (by decide) hfr
  have hst := kept_strict (A := d.toArray) (by rw [hsz]; exact hd)
  have hmem := @kept_mem d.toArray
  rw [hsz] at hst hmem
  have hsub : ∀ x ∈ keptUpTo (kpQ d.toArray) d.toArray d.length, x ∈ ls := fun x hx => by
    unfold keptUpTo at hx
    obtain ⟨j, hj, rfl⟩ := List.mem_map.1 hx
    have := bang_memR (d := d.toArray) (j := j) (by rw [hsz]; exact List.mem_range.1 (List.mem_filter.1 hj).1)
    exact (hs.1.2 _).1 this
  have hlen : (keptUpTo (kpQ d.toArray) d.toArray d.length).length ≤ cap := by
    have : (keptUpTo (kpQ d.toArray) d.toArray d.length).length ≤ d.length := by
      unfold keptUpTo
      rw [List.length_map]
      exact Nat.le_trans (List.length_filter_le ..) (by simp)
    have := hs.1.1; omega
  refine ⟨⟨_, _, _, rfl, prs_of_rowG hk (fun x hx => (ht x (hsub x hx)).keep hkT) hlen, hst, fun q => ?_⟩, hb.trans (hfr.below hg hb.size)⟩
  rw [hmem, ← hm]
  simp only [List.mem_map]
  exact ⟨fun ⟨x, hx, e⟩ => ⟨x, (hs.1.2 x).1 hx, e⟩, fun ⟨x, hx, e⟩ => ⟨x, (hs.1.2 x).2 hx, e⟩⟩
set_option maxRecDepth 100000 in
set_option maxHeartbeats 2000000 in
theorem sortPreds_any (l : List Pr) (v : Value) (w : World) (h : PrsAt w v l) (hq : ∀ q ∈ l, tsize q.2 ≤ 1000000000) (hf : ∀ q ∈ l, Fits q.2) (hl : l.length ≤ 12) :
    Calls Tryz.prog 19 #[v] w (SpRes l w) := by
  obtain ⟨av, cv, rfl⟩ := h.shape
  have HP := Lib.hid (predsG_any (.slice none 0 0) _ [] l w (by decide) (fun _ h => nomatch h) (sub_nil w none 0 (fun _ => rfl)) h hq (by omega))
  have HF := Lib.hid hf
  clear h hq hf
  go_enter Tryz.func19, Tryz.ntmps19
  go_wp2_with (go_at_call 40; fail)
  refine HP.out.mono ?_
  rintro e w1 ⟨⟨ls, hm, rfl, hr, ht⟩, hb⟩
  rw [appP_nil] at hm
  have hll : ls.length = l.length := by have := congrArg List.length hm; simpa using this
  by_cases h0 : l.length = 0
  · have HB := Lib.hid hb
    have e0 : l = [] := List.length_eq_zero_iff.1 h0
    subst e0
    clear hb hr ht hm hll HP HF
    simp only [List.length_nil]
    go_wp2_with (first
      | (go_at_call 43; refine (sort0 _ _ _ _).mono ?_; rintro e w' ⟨rfl, rfl⟩)
      | (go_at_call 45; refine (compact0 _ _ _ _).mono ?_; rintro e w' ⟨rfl, rfl⟩))
    go_ret
    exact ⟨⟨[], _, _, rfl, .inl ⟨rfl, _, _, rfl⟩, List.Pairwise.nil, fun q => by simp⟩, HB.out⟩
  · have hfa : FitsAll ls := fun x hx => HF.out (prOf x) (by rw [← hm]; exact List.mem_map.2 ⟨x, hx, rfl⟩)
    have hS := sortQ_any (w.heap.size + 1) l.length ls w1 hr ht hfa (by omega)
    rw [hll] at hS
    have HS := Lib.hid hS
    have HH := Lib.hid (And.intro hm (And.intro hr (And.intro ht (And.intro hb hfa))))
    clear hS hfa hm hr ht hb HP HF
    go_wp2_with (go_at_call 43; fail)
    refine HS.out.mono ?_
    rintro e w2 ⟨rfl, d, hd, hs⟩
    have hdl : d.length = l.length := hs.1.1.trans hll
    have hkT := HH.out.2.1.keepT (by decide) hs.2.2
    have hC := compactQ_any (w.heap.size + 1) l.length d w2 hs.2.1 (fun x hx => (HH.out.2.2.1 x ((hs.1.2 x).1 hx)).keep hkT) (fun x hx => HH.out.2.2.2.2 x ((hs.1.2 x).1 hx)) (by omega) (by omega) (fun e => by subst e; simp at hdl; omega)
    have HC := Lib.hid (hC.mono fun e w3 ⟨e1, hk, hf⟩ => (show ∃ k : Nat, e = Ending.returned (.slice (some ⟨w.heap.size + 1, 0, none⟩) k l.length) ∧ SpRes l w (Ending.returned (.slice (some ⟨w.heap.size + 1, 0, none⟩) k l.length)) w3 from ⟨_, e1, sp_end (Nat.le_succ _) HH.out.1 HH.out.2.1 HH.out.2.2.1 HH.out.2.2.2.1 hd hs (by omega) hk hf⟩))
    rw [hdl] at HC
    clear hC hkT hd hs HS HH
    go_wp2_with (go_at_call 45; fail)
    refine HC.out.mono ?_
    rintro e w3 ⟨k, rfl, hE⟩
    have HE := Lib.hid hE
    clear hE HC
    go_wp2_with (fail)
    go_ret
    exact HE.out
end Go.Proofs.YtdidgddcgjpokaaGreatDoor
/- Schemes with a context: what the statements of Free and of Canon keep. -/
namespace Go.Proofs.YtdidgddcgjpokaaGreatDoor
open Go.RowKit Go.Sort Go.Lib
attribute [local go_sem] Oper.semAt_some

theorem PrsAt.belowG {w Y : World} {v : Value} {l : List Pr} (h : PrsAt w v l) (hb : Below w.heap.size w Y) : PrsAt Y v l := h.keep (KeepT.of_below hb) (KeepP.of_below hb)
/-- A scheme, its variables, its context. -/
def SFg (w : World) (b1 : Nat) (xa : Option Addr) (xc : Nat) (xs : List ByteArray) (ca : Option Addr) (cc : Nat) (lc : List Pr) (t : T) (ta : Option Addr) (tc : Nat) (V : World) : Prop :=
  SchB b1 (.slice xa xs.length xc) (.slice ca lc.length cc) t ta tc V ∧ TextsAt V (.slice xa xs.length xc) xs ∧ PrsAt V (.slice ca lc.length cc) lc ∧ Below w.heap.size w V
theorem SFg.below {w : World} {b1 : Nat} {xa : Option Addr} {xc : Nat} {xs : List ByteArray} {ca : Option Addr} {cc : Nat} {lc : List Pr} {t : T} {ta : Option Addr} {tc : Nat} {V Y : World} (h : SFg w b1 xa xc xs ca cc lc t ta tc V) (hb : Below V.heap.size V Y) : SFg w b1 xa xc xs ca cc lc t ta tc Y :=
  ⟨h.1.below hb, h.2.1.below hb, h.2.2.1.belowG hb, h.2.2.2.trans (hb.mono h.2.2.2.size)⟩
/-- A scheme, the variables that are named anew, and those that are free. -/
def SNg (w : World) (b1 b2 : Nat) (xa : Option Addr) (xn xc : Nat) (ca : Option Addr) (cc : Nat) (lc : List Pr) (t : T) (ta : Option Addr) (tc : Nat) (ba : Option Addr) (bc : Nat) (oa : Option Addr) (oc : Nat) (bs os : List ByteArray) (V : World) : Prop :=
  SchB b1 (.slice xa xn xc) (.slice ca lc.length cc) t ta tc V ∧ Sch0 b2 V ∧ (TextsAt V (.slice ba bs.length bc) bs ∧ TextsAt V (.slice oa os.length oc) os) ∧ PrsAt V (.slice ca lc.length cc) lc ∧ Below w.heap.size w V
theorem SNg.below {w : World} {b1 b2 : Nat} {xa : Option Addr} {xn xc : Nat} {ca : Option Addr} {cc : Nat} {lc : List Pr} {t : T} {ta : Option Addr} {tc : Nat} {ba : Option Addr} {bc : Nat} {oa : Option Addr} {oc : Nat} {bs os : List ByteArray} {V Y : World} (h : SNg w b1 b2 xa xn xc ca cc lc t ta tc ba bc oa oc bs os V) (hb : Below V.heap.size V Y) : SNg w b1 b2 xa xn xc ca cc lc t ta tc ba bc oa oc bs os Y :=
  ⟨h.1.below hb, h.2.1.below hb, ⟨h.2.2.1.1.below hb, h.2.2.1.2.below hb⟩, h.2.2.2.1.belowG hb, h.2.2.2.2.trans (hb.mono h.2.2.2.2.size)⟩
/-- A context, where a block of schemes is written. -/
theorem prs_set {b : Nat} {xv cv v : Value} {t : T} {ta : Option Addr} {tc o : Nat} {V : World} {u : Value} {l : List Pr} (h : SchB b xv cv t ta tc V) (hu : PrsAt V u l) : PrsAt (V.setCell ⟨b, o, none⟩ v) u l := by
  have ho : ∀ k, k ≠ b → (V.setCell ⟨b, o, none⟩ v).heap[k]? = V.heap[k]? := fun k hk => Below.heap_setCell _ ⟨b, o, none⟩ _ k hk
  exact hu.keep (fun k cs fz hk => (ho k (fun e => by subst e; rw [h.1] at hk; simp at hk)).trans hk) (fun k cs fz hk => (ho k (fun e => by subst e; rw [h.1] at hk; simp at hk)).trans hk)
theorem prs_set5 {b : Nat} {xv cv : Value} {t : T} {ta : Option Addr} {tc : Nat} {V : World} {u : Value} {l : List Pr} (h : SchB b xv cv t ta tc V) (hu : PrsAt V u l) (v0 v1 v2 v3 v4 : Value) : PrsAt (set5 V b v0 v1 v2 v3 v4) u l :=
  hu.keep (fun k cs fz hk => (set5_other _ _ _ _ _ _ _ (fun e => by subst e; rw [h.1] at hk; simp at hk)).trans hk) (fun k cs fz hk => (set5_other _ _ _ _ _ _ _ (fun e => by subst e; rw [h.1] at hk; simp at hk)).trans hk)
theorem prs_set50 {b : Nat} {V : World} {u : Value} {l : List Pr} (h : Sch0 b V) (hu : PrsAt V u l) (v0 v1 v2 v3 v4 : Value) : PrsAt (set5 V b v0 v1 v2 v3 v4) u l :=
  hu.keep (fun k cs fz hk => (set5_other _ _ _ _ _ _ _ (fun e => by subst e; rw [h] at hk; simp at hk)).trans hk) (fun k cs fz hk => (set5_other _ _ _ _ _ _ _ (fun e => by subst e; rw [h] at hk; simp at hk)).trans hk)
end Go.Proofs.YtdidgddcgjpokaaGreatDoor
/- Two types as one, as plain data: what the chapter's way finds, that it ends, that it is the most general. -/
namespace Go.Proofs.YtdidgddcgjpokaaGreatDoor

theorem T.kidsInd {P : T → Prop} (H : ∀ t, (∀ k ∈ t.kids, P k) → P t) : ∀ t, P t := by
  have key : ∀ n, ∀ t : T, SizeOf.sizeOf t ≤ n → P t := by
    intro n
    induction n with
    | zero => intro t ht; exact H t fun k hk => by have := T.kid_size hk; omega
    | succ n ih => intro t ht; exact H t fun k hk => ih k (by have := T.kid_size hk; omega)
  exact fun t => key _ t (Nat.le_refl _)
/-- Types for variables. -/
abbrev Sg := ByteArray → T
mutual
def sub (σ : Sg) : T → T
  | .var n => σ n
  | .con n l => .con n (subs σ l)
  | .fn a b => .fn (sub σ a) (sub σ b)
  | .all n a => .all n (sub σ a)
def subs (σ : Sg) : List T → List T
  | [] => []
  | a :: l => sub σ a :: subs σ l
end
theorem subs_map (σ : Sg) : ∀ l, subs σ l = l.map (sub σ)
  | [] => rfl
  | a :: l => by rw [subs, subs_map σ l]; rfl
def T.isV : T → Bool
  | .var _ => true
  | _ => false
theorem isV_var {t : T} (h : t.isV = true) : t = .var t.name := by cases t <;> simp_all [T.isV, T.name]
theorem sub_parts (σ : Sg) (t : T) (h : t.isV = false) : (sub σ t).kind = t.kind ∧ (sub σ t).name = t.name ∧ (sub σ t).kids = t.kids.map (sub σ) ∧ (sub σ t).isV = false := by
  cases t with
  | var n => simp [T.isV] at h
  | con n l => rw [sub, subs_map]; exact ⟨rfl, rfl, rfl, rfl⟩
  | fn a b => rw [sub]; exact ⟨rfl, rfl, rfl, rfl⟩
  | all n a => rw [sub]; exact ⟨rfl, rfl, rfl, rfl⟩
/-- Two that are no variables are the same by their heads and their parts. -/
theorem sub_congr {σ τ : Sg} {t : T} (h : t.isV = false) (hk : ∀ k ∈ t.kids, sub σ k = sub τ k) : sub σ t = sub τ t := by
  obtain ⟨a1, a2, a3, _⟩ := sub_parts σ t h
  obtain ⟨b1, b2, b3, _⟩ := sub_parts τ t h
  refine T.ext3 (a1.trans b1.symm) (a2.trans b2.symm) ?_
  rw [a3, b3]
  exact List.map_congr_left hk
mutual
/-- The variables that stand in a type. -/
def vs : T → List ByteArray
  | .var n => [n]
  | .con _ l => vss l
  | .fn a b => vs a ++ vs b
  | .all _ a => vs a
def vss : List T → List ByteArray
  | [] => []
  | a :: l => vs a ++ vss l
end
theorem vss_mem {x : ByteArray} : ∀ {l : List T}, x ∈ vss l ↔ ∃ k ∈ l, x ∈ vs k
  | [] => by simp [vss]
  | a :: l => by rw [vss, List.mem_append, vss_mem (l := l)]; simp
theorem vs_kids {x : ByteArray} {t : T} (h : t.isV = false) : x ∈ vs t ↔ ∃ k ∈ t.kids, x ∈ vs k := by
  cases t with
  | var n => simp [T.isV] at h
  | con n l => rw [vs, vss_mem]; rfl
  | fn a b => simp [vs, T.kids]
  | all n a => simp [vs, T.kids]
theorem sub_ext {σ τ : Sg} : ∀ t, (∀ x ∈ vs t, σ x = τ x) → sub σ t = sub τ t := by
  refine T.kidsInd fun t ih h => ?_
  by_cases hv : t.isV = true
  · rw [isV_var hv]; exact h _ (by rw [isV_var hv]; simp [vs, T.name])
  · have hv' : t.isV = false := by simpa using hv
    exact sub_congr hv' fun k hk => ih k hk fun x hx => h x ((vs_kids hv').2 ⟨k, hk, hx⟩)
theorem sub_var : ∀ t, sub T.var t = t := by
  refine T.kidsInd fun t ih => ?_
  by_cases hv : t.isV = true
  · rw [isV_var hv]; rfl
  · obtain ⟨a1, a2, a3, _⟩ := sub_parts T.var t (by simpa using hv)
    refine T.ext3 a1 a2 ?_
    rw [a3]
    conv => rhs; rw [← List.map_id t.kids]
    exact List.map_congr_left fun k hk => ih k hk
theorem sub_id {σ : Sg} {t : T} (h : ∀ x ∈ vs t, σ x = .var x) : sub σ t = t := (sub_ext t h).trans (sub_var t)
theorem sub_sub (τ σ : Sg) : ∀ t, sub τ (sub σ t) = sub (fun n => sub τ (σ n)) t := by
  refine T.kidsInd fun t ih => ?_
  by_cases hv : t.isV = true
  · rw [isV_var hv]; rfl
  · have hv' : t.isV = false := by simpa using hv
    obtain ⟨a1, a2, a3, a4⟩ := sub_parts σ t hv'
    obtain ⟨b1, b2, b3, _⟩ := sub_parts τ (sub σ t) a4
    obtain ⟨c1, c2, c3, _⟩ := sub_parts (fun n => sub τ (σ n)) t hv'
    refine T.ext3 (b1.trans (a1.trans c1.symm)) (b2.trans (a2.trans c2.symm)) ?_
    rw [b3, a3, c3, List.map_map]
    exact List.map_congr_left fun k hk => ih k hk
theorem vs_sub {σ : Sg} {x : ByteArray} : ∀ t, x ∈ vs (sub σ t) ↔ ∃ y ∈ vs t, x ∈ vs (σ y) := by
  refine T.kidsInd fun t ih => ?_
  by_cases hv : t.isV = true
  · rw [isV_var hv]; simp [sub, vs]
  · have hv' : t.isV = false := by simpa using hv
    obtain ⟨_, _, a3, a4⟩ := sub_parts σ t hv'
    rw [vs_kids a4, a3]
    constructor
    · rintro ⟨k, hk, hx⟩
      obtain ⟨k0, hk0, rfl⟩ := List.mem_map.1 hk
      obtain ⟨y, hy, h⟩ := (ih k0 hk0).1 hx
      exact ⟨y, (vs_kids hv').2 ⟨k0, hk0, hy⟩, h⟩
    · rintro ⟨y, hy, h⟩
      obtain ⟨k0, hk0, hy⟩ := (vs_kids hv').1 hy
      exact ⟨_, List.mem_map.2 ⟨k0, hk0, rfl⟩, (ih k0 hk0).2 ⟨y, hy, h⟩⟩
theorem tsizes_mem {k : T} : ∀ {l : List T}, k ∈ l → tsize k ≤ tsizes l
  | [], h => by cases h
  | a :: l, h => by
    rw [tsizes]
    rcases List.mem_cons.1 h with rfl | h
    · omega
    · have := tsizes_mem h; omega
theorem tsize_pos (t : T) : 1 ≤ tsize t := by rw [tsize_eq]; omega
theorem tsize_kid {t k : T} (h : k ∈ t.kids) : tsize k < tsize t := by rw [tsize_eq t]; have := tsizes_mem h; omega
theorem size_sub {σ : Sg} {x : ByteArray} : ∀ t, x ∈ vs t → tsize (σ x) ≤ tsize (sub σ t) := by
  refine T.kidsInd fun t ih h => ?_
  by_cases hv : t.isV = true
  · rw [isV_var hv] at h ⊢
    simp [vs, T.name] at h
    subst h; exact Nat.le_refl _
  · have hv' : t.isV = false := by simpa using hv
    obtain ⟨k, hk, hx⟩ := (vs_kids hv').1 h
    obtain ⟨_, _, a3, _⟩ := sub_parts σ t hv'
    have := ih k hk hx
    have h2 : tsize (sub σ k) < tsize (sub σ t) := tsize_kid (by rw [a3]; exact List.mem_map.2 ⟨k, hk, rfl⟩)
    omega
/-- A variable within a type that is none: the type is greater. -/
theorem size_sub_lt {σ : Sg} {x : ByteArray} {t : T} (hv : t.isV = false) (h : x ∈ vs t) : tsize (σ x) < tsize (sub σ t) := by
  obtain ⟨k, hk, hx⟩ := (vs_kids hv).1 h
  obtain ⟨_, _, a3, _⟩ := sub_parts σ t hv
  have h1 := size_sub (σ := σ) k hx
  have h2 : tsize (sub σ k) < tsize (sub σ t) := tsize_kid (by rw [a3]; exact List.mem_map.2 ⟨k, hk, rfl⟩)
  omega

/-- What comes of two types: the variables' types, or why there are none (true: the variable stands in the type). -/
inductive UR where
  | ok (σ : Sg)
  | bad (e : Bool)
open Classical in
noncomputable def one (x : ByteArray) (u : T) : Sg := fun n => if n = x then u else .var n
open Classical in
noncomputable def bindU (σ : Sg) (x : ByteArray) (u : T) : UR := if x ∈ vs u then .bad true else .ok (fun n => sub (one x u) (σ n))
noncomputable def uniL (u : Sg → T → T → Option UR) : Sg → List T → List T → Option UR
  | σ, a :: l, b :: m => match u σ a b with
    | some (.ok τ) => uniL u τ l m
    | r => r
  | σ, _, _ => some (.ok σ)
open Classical in
noncomputable def stepU (u : Sg → T → T → Option UR) (σ : Sg) (a b : T) : Option UR :=
  if a.isV = true ∧ b.isV = true ∧ a.name = b.name then some (.ok σ)
  else if a.isV = true then some (bindU σ a.name b)
  else if b.isV = true then some (bindU σ b.name a)
  else if a.kind = b.kind ∧ a.name = b.name ∧ a.kids.length = b.kids.length then uniL u σ a.kids b.kids
  else some (.bad false)
noncomputable def uni : Nat → Sg → T → T → Option UR
  | 0, _, _, _ => none
  | f + 1, σ, a, b => stepU (uni f) σ (sub σ a) (sub σ b)

theorem one_at (x : ByteArray) (u : T) : one x u x = u := by simp [one]
theorem one_ne {x y : ByteArray} (u : T) (h : y ≠ x) : one x u y = .var y := by simp [one, h]
/-- What is found is at its end: no variable that has a type stands in any of the types. -/
def Idem (σ : Sg) : Prop := ∀ x, ∀ y ∈ vs (σ x), σ y = .var y
theorem Idem.on {σ : Sg} (h : Idem σ) {t : T} {y : ByteArray} (hy : y ∈ vs (sub σ t)) : σ y = .var y := by
  obtain ⟨x, _, hx⟩ := (vs_sub t).1 hy
  exact h x y hx
theorem Idem.twice {σ : Sg} (h : Idem σ) (t : T) : sub σ (sub σ t) = sub σ t := sub_id fun _ hx => h.on hx
/-- More was found. -/
def ExtU (σ τ : Sg) : Prop := ∃ δ : Sg, ∀ x, τ x = sub δ (σ x)
theorem ExtU.trans {σ τ ρ : Sg} (h : ExtU σ τ) (k : ExtU τ ρ) : ExtU σ ρ := by
  obtain ⟨d, h⟩ := h; obtain ⟨e, k⟩ := k
  exact ⟨fun n => sub e (d n), fun x => by rw [k x, h x, sub_sub]⟩
/-- A variable that has no type yet gets one. -/
structure Binds (σ : Sg) (x : ByteArray) (u : T) (τ : Sg) : Prop where
  free : σ x = .var x
  out : x ∉ vs u
  fix : sub σ u = u
  new : τ = fun n => sub (one x u) (σ n)
theorem Binds.idem {σ τ : Sg} {x : ByteArray} {u : T} (h : Binds σ x u τ) (hi : Idem σ) : Idem τ := by
  intro z y hy
  rw [h.new] at hy ⊢
  obtain ⟨w, hw, hy⟩ := (vs_sub _).1 hy
  have key : σ y = .var y ∧ y ≠ x := by
    by_cases e : w = x
    · subst e
      rw [one_at] at hy
      refine ⟨?_, fun e => h.out (e ▸ hy)⟩
      have h9 : y ∈ vs (sub σ u) := by rw [h.fix]; exact hy
      exact hi.on h9
    · rw [one_ne u e] at hy
      simp [vs] at hy
      subst hy
      exact ⟨hi z y hw, e⟩
  show sub (one x u) (σ y) = .var y
  rw [key.1]
  exact one_ne u key.2
end Go.Proofs.YtdidgddcgjpokaaGreatDoor
/- Two types as one: what is found makes them one; whatever else does goes by it. -/
namespace Go.Proofs.YtdidgddcgjpokaaGreatDoor

end Go.Proofs.YtdidgddcgjpokaaGreatDoor
/- Two types as one: it ends; how great what is found can be. -/
namespace Go.Proofs.YtdidgddcgjpokaaGreatDoor

theorem filter_lt {α : Type} {p q : α → Bool} : ∀ {l : List α}, (∀ y ∈ l, q y = true → p y = true) → (∃ x ∈ l, p x = true ∧ q x = false) → (l.filter q).length < (l.filter p).length
  | [], _, h => by obtain ⟨x, hx, _⟩ := h; cases hx
  | a :: l, h, he => by
    have hle : (l.filter q).length ≤ (l.filter p).length := by
      clear he
      induction l with
      | nil => simp
      | cons b l ih =>
        have h1 := ih fun y hy => h y (by rcases List.mem_cons.1 hy with rfl | hy <;> simp [*])
        have hb := h b (by simp)
        rw [List.filter_cons, List.filter_cons]
        cases eq : q b with
        | false => cases ep : p b <;> simp <;> omega
        | true => rw [hb eq]; simp; omega
    obtain ⟨x, hx, hp, hq⟩ := he
    rw [List.filter_cons, List.filter_cons]
    rcases List.mem_cons.1 hx with rfl | hx
    · rw [hp, hq]; simp; omega
    · have := filter_lt (fun y hy => h y (List.mem_cons_of_mem _ hy)) ⟨x, hx, hp, hq⟩
      have ha := h a (by simp)
      cases eq : q a with
      | false => cases ep : p a <;> simp <;> omega
      | true => rw [ha eq]; simp; omega
def VIn (V : List ByteArray) (σ : Sg) : Prop := ∀ x ∈ V, ∀ y ∈ vs (σ x), y ∈ V
def TIn (V : List ByteArray) (t : T) : Prop := ∀ x ∈ vs t, x ∈ V
theorem TIn.kid {V : List ByteArray} {t k : T} (h : TIn V t) (hv : t.isV = false) (hk : k ∈ t.kids) : TIn V k := fun x hx => h x ((vs_kids hv).2 ⟨k, hk, hx⟩)
/-- Each variable's type is made of a part that was there at the start. -/
def FromU (O : T → Prop) (σ : Sg) : Prop := ∀ x, (σ x).isV = true ∨ ∃ t, O t ∧ t.isV = false ∧ σ x = sub σ t
def InstU (O : T → Prop) (σ : Sg) (a : T) : Prop := ∃ o, O o ∧ sub σ a = sub σ o
/-- A type that is no variable is what a part at the start, none either, came to. -/
theorem InstU.solid {O : T → Prop} {σ : Sg} {a : T} (h : InstU O σ a) (hF : FromU O σ) (hv : (sub σ a).isV = false) : ∃ o, O o ∧ o.isV = false ∧ sub σ a = sub σ o := by
  obtain ⟨o, h, e⟩ := h
  cases ho : o.isV with
  | false => exact ⟨o, h, ho, e⟩
  | true =>
    have eo := isV_var ho
    rcases hF o.name with h1 | ⟨t, ht, hvt, et⟩
    · have h9 : (sub σ o).isV = true := by rw [eo]; exact h1
      rw [e, h9] at hv; cases hv
    · exact ⟨t, ht, hvt, e.trans (by rw [eo]; exact et)⟩
theorem InstU.kid {O : T → Prop} (hO : ∀ t, O t → ∀ k ∈ t.kids, O k) {σ : Sg} {a k : T} (h : InstU O σ a) (hF : FromU O σ) (hi : Idem σ) (hv : (sub σ a).isV = false) (hk : k ∈ (sub σ a).kids) : InstU O σ k := by
  obtain ⟨o, h, ho, e⟩ := h.solid hF hv
  rw [e, (sub_parts σ o ho).2.2.1] at hk
  obtain ⟨k0, hk0, rfl⟩ := List.mem_map.1 hk
  exact ⟨k0, hO o h k0 hk0, hi.twice k0⟩
/-- A type's size with types for its variables. -/
theorem size_subs {σ : Sg} {M : Nat} (hM : 1 ≤ M) : ∀ t, (∀ y ∈ vs t, tsize (σ y) ≤ M) → tsize (sub σ t) ≤ tsize t * M := by
  refine T.kidsInd fun t ih h => ?_
  cases hv : t.isV with
  | true =>
    rw [isV_var hv] at h ⊢
    have := h t.name (by simp [vs])
    simpa [sub, tsize] using this
  | false =>
    obtain ⟨_, _, a3, _⟩ := sub_parts σ t hv
    rw [tsize_eq, a3, tsize_eq t]
    have key : ∀ l : List T, (∀ k ∈ l, tsize (sub σ k) ≤ tsize k * M) → tsizes (l.map (sub σ)) ≤ tsizes l * M := by
      intro l
      induction l with
      | nil => intro _; simp [tsizes]
      | cons a l ih2 =>
        intro hl
        have h1 := hl a (by simp)
        have h2 := ih2 fun k hk => hl k (List.mem_cons_of_mem _ hk)
        rw [List.map_cons, tsizes, tsizes, Nat.add_mul]; omega
    have := key t.kids fun k hk => ih k hk fun y hy => h y ((vs_kids hv).2 ⟨k, hk, hy⟩)
    rw [Nat.add_mul]; omega
noncomputable def rankU (V : List ByteArray) (σ : Sg) (x : ByteArray) : Nat := (V.filter fun y => decide (tsize (σ y) < tsize (σ x))).length
theorem rank_lt {V : List ByteArray} {σ : Sg} {x y : ByteArray} (hy : y ∈ V) (h : tsize (σ y) < tsize (σ x)) : rankU V σ y < rankU V σ x := by
  unfold rankU
  refine filter_lt (fun z _ hz => decide_eq_true (Nat.lt_trans (of_decide_eq_true hz) h)) ⟨y, hy, decide_eq_true h, decide_eq_false (Nat.lt_irrefl _)⟩
theorem rank_in {V : List ByteArray} {σ : Sg} {x : ByteArray} (hx : x ∈ V) : rankU V σ x < V.length := by
  have := filter_lt (l := V) (p := fun _ => true) (q := fun y => decide (tsize (σ y) < tsize (σ x))) (fun _ _ _ => rfl) ⟨x, hx, rfl, decide_eq_false (Nat.lt_irrefl _)⟩
  have e : V.filter (fun _ => true) = V := by simp
  rw [e] at this
  exact this
/-- How great a variable's type can be. -/
theorem from_size {O : T → Prop} {V : List ByteArray} {σ : Sg} {N : Nat} (hF : FromU O σ) (hV : ∀ t, O t → t.isV = false → TIn V t) (hN : ∀ t, O t → tsize t ≤ N) (h1 : 1 ≤ N) : ∀ n x, tsize (σ x) ≤ n → tsize (σ x) ≤ N ^ (rankU V σ x + 1) := by
  intro n
  induction n with
  | zero => intro x h; have := tsize_pos (σ x); omega
  | succ n ih =>
    intro x hx
    have hp : 1 ≤ N ^ (rankU V σ x + 1) := Nat.one_le_pow _ _ h1
    rcases hF x with hv | ⟨t, ht, hvt, et⟩
    · rw [isV_var hv]; simpa [tsize] using hp
    · have hp' : 1 ≤ N ^ rankU V σ x := Nat.one_le_pow _ _ h1
      have := size_subs (σ := σ) hp' t fun y hy => by
        have hlt : tsize (σ y) < tsize (σ x) := by rw [et]; exact size_sub_lt hvt hy
        have h2 := ih y (by omega)
        have h3 := rank_lt (hV t ht hvt y hy) hlt
        exact Nat.le_trans h2 (Nat.pow_le_pow_right h1 h3)
      rw [et] at hx ⊢
      rw [← et] at hx ⊢
      have h9 := Nat.mul_le_mul_right (N ^ rankU V σ x) (hN t ht)
      rw [Nat.pow_succ, Nat.mul_comm, et]
      exact Nat.le_trans this h9
theorem from_le {O : T → Prop} {V : List ByteArray} {σ : Sg} {N : Nat} (hF : FromU O σ) (hV : ∀ t, O t → t.isV = false → TIn V t) (hN : ∀ t, O t → tsize t ≤ N) (h1 : 1 ≤ N) {x : ByteArray} (hx : x ∈ V) : tsize (σ x) ≤ N ^ V.length :=
  Nat.le_trans (from_size hF hV hN h1 _ x (Nat.le_refl _)) (Nat.pow_le_pow_right h1 (rank_in hx))
end Go.Proofs.YtdidgddcgjpokaaGreatDoor
/- Two types as one: what is found as a list of pairs. -/
namespace Go.Proofs.YtdidgddcgjpokaaGreatDoor

theorem app_sub (d : List PR) : ∀ t, app d t = sub (fun n => ty n d) t := by
  refine T.kidsInd fun t ih => ?_
  cases hv : t.isV with
  | true => rw [isV_var hv]; rfl
  | false =>
    have hn : ∀ n, t ≠ .var n := fun n e => by rw [e] at hv; cases hv
    obtain ⟨a1, a2, a3⟩ := app_parts d t hn
    obtain ⟨b1, b2, b3, _⟩ := sub_parts (fun n => ty n d) t hv
    refine T.ext3 (a1.trans b1.symm) (a2.trans b2.symm) ?_
    rw [a3, b3]
    exact List.map_congr_left ih
end Go.Proofs.YtdidgddcgjpokaaGreatDoor
/- types.Has; the document's Size; texts in rows: Place, Has, SameTexts. -/
namespace Go.Proofs.YtdidgddcgjpokaaGreatDoor
open Go.RowKit
attribute [local go_sem] Oper.semAt_some

mutual
noncomputable def hasT (m : ByteArray) : T → Bool
  | .var n => eqB n m
  | .con _ l => hasTs m l
  | .fn a b => hasT m a || hasT m b
  | .all n a => !eqB n m && hasT m a
noncomputable def hasTs (m : ByteArray) : List T → Bool
  | [] => false
  | a :: l => hasT m a || hasTs m l
end
open Classical in
mutual
theorem fv_mem (t : T) (bd out : List ByteArray) (n : ByteArray) : n ∈ fv bd out t ↔ n ∈ out ∨ (¬ n ∈ bd ∧ hasT n t = true) := by
  cases t with
  | var x =>
    rw [fv, hasT, eqB_iff]
    by_cases h : x ∈ bd ∨ x ∈ out
    · rw [if_pos h]
      constructor
      · exact .inl
      · rintro (h1 | ⟨h1, rfl⟩)
        · exact h1
        · exact h.resolve_left h1
    · rw [if_neg h]
      simp only [List.mem_append, List.mem_singleton]
      constructor
      · rintro (h1 | rfl)
        · exact .inl h1
        · exact .inr ⟨fun e => h (.inl e), rfl⟩
      · rintro (h1 | ⟨_, rfl⟩)
        · exact .inl h1
        · exact .inr rfl
  | con x l => rw [fv, hasT]; exact fvs_mem l bd out n
  | fn a b =>
    rw [fv, hasT, fv_mem b, fv_mem a, Bool.or_eq_true]
    constructor
    · rintro ((h | ⟨h1, h2⟩) | ⟨h1, h2⟩)
      · exact .inl h
      · exact .inr ⟨h1, .inl h2⟩
      · exact .inr ⟨h1, .inr h2⟩
    · rintro (h | ⟨h1, h2 | h2⟩)
      · exact .inl (.inl h)
      · exact .inl (.inr ⟨h1, h2⟩)
      · exact .inr ⟨h1, h2⟩
  | all x a =>
    rw [fv, hasT, fv_mem a, Bool.and_eq_true, Bool.not_eq_true']
    have : eqB x n = false ↔ ¬ n = x := by
      constructor
      · rintro h rfl; rw [eqB_true rfl] at h; cases h
      · intro h; exact eqB_false fun e => h e.symm
    rw [this, List.mem_cons]
    constructor
    · rintro (h | ⟨h1, h2⟩)
      · exact .inl h
      · exact .inr ⟨fun e => h1 (.inr e), fun e => h1 (.inl e), h2⟩
    · rintro (h | ⟨h1, h2, h3⟩)
      · exact .inl h
      · exact .inr ⟨fun e => e.elim h2 h1, h3⟩
theorem fvs_mem (l : List T) (bd out : List ByteArray) (n : ByteArray) : n ∈ fvs bd out l ↔ n ∈ out ∨ (¬ n ∈ bd ∧ hasTs n l = true) := by
  cases l with
  | nil => simp [fvs, hasTs]
  | cons a l =>
    rw [fvs, hasTs, fvs_mem l, fv_mem a, Bool.or_eq_true]
    constructor
    · rintro ((h | ⟨h1, h2⟩) | ⟨h1, h2⟩)
      · exact .inl h
      · exact .inr ⟨h1, .inl h2⟩
      · exact .inr ⟨h1, .inr h2⟩
    · rintro (h | ⟨h1, h2 | h2⟩)
      · exact .inl (.inl h)
      · exact .inl (.inr ⟨h1, h2⟩)
      · exact .inr ⟨h1, h2⟩
end

end Go.Proofs.YtdidgddcgjpokaaGreatDoor
/- Two types as one: of the types that the statements make. -/
namespace Go.Proofs.YtdidgddcgjpokaaGreatDoor

theorem goods_mem {k : T} : ∀ {l : List T}, T.Goods l → k ∈ l → T.Good k
  | [], _, h => by cases h
  | a :: l, h, hk => by
    simp only [T.Goods] at h
    rcases List.mem_cons.1 hk with rfl | hk
    · exact h.1
    · exact goods_mem h.2 hk
theorem good_kid {t k : T} (h : T.Good t) (hk : k ∈ t.kids) : T.Good k := by
  cases t with
  | var n => cases hk
  | con n l => simp only [T.Good] at h; exact goods_mem h.2 hk
  | fn a b =>
    simp only [T.Good] at h
    simp [T.kids] at hk
    rcases hk with rfl | rfl
    · exact h.1
    · exact h.2
  | all n a => simp only [T.Good] at h
/-- The three variables of types that are made. -/
def V3 : List ByteArray := [⟨#[97]⟩, ⟨#[98]⟩, ⟨#[99]⟩]
theorem vname_in {n : ByteArray} (h : n.data.toList ∈ T.vnames) : n ∈ V3 := by
  have e : ∀ l : List UInt8, n.data.toList = l → n = ⟨l.toArray⟩ := fun l e => by
    cases n with | mk d => cases d; simp at e; rw [e]
  simp [T.vnames] at h
  rcases h with h | h | h
  · rw [e _ h]; simp [V3]
  · rw [e _ h]; simp [V3]
  · rw [e _ h]; simp [V3]
theorem good_in : ∀ t, T.Good t → TIn V3 t := by
  refine T.kidsInd fun t ih h x hx => ?_
  cases hv : t.isV with
  | true =>
    rw [isV_var hv] at h hx
    simp [vs] at hx
    subst hx
    exact vname_in (by simpa [T.Good] using h)
  | false =>
    obtain ⟨k, hk, hx⟩ := (vs_kids hv).1 hx
    exact ih k hk (good_kid h hk) x hx
/-- No variable is bound. -/
def NoAll (t : T) : Prop := ∀ x, hasT x t = true ↔ x ∈ vs t
theorem hasTs_any (x : ByteArray) : ∀ l : List T, hasTs x l = true ↔ ∃ k ∈ l, hasT x k = true
  | [] => by simp [hasTs]
  | a :: l => by rw [hasTs, Bool.or_eq_true, hasTs_any x l]; simp
theorem noAll_of {t : T} (h4 : t.kind ≠ 4) (hk : ∀ k ∈ t.kids, NoAll k) : NoAll t := by
  intro x
  cases t with
  | var n => rw [hasT, eqB_iff]; simp [vs, eq_comm]
  | con n l =>
    rw [hasT, hasTs_any, vs_kids rfl]
    exact ⟨fun ⟨k, h1, h2⟩ => ⟨k, h1, (hk k h1 x).1 h2⟩, fun ⟨k, h1, h2⟩ => ⟨k, h1, (hk k h1 x).2 h2⟩⟩
  | fn a b =>
    rw [hasT, Bool.or_eq_true, hk a (by simp [T.kids]) x, hk b (by simp [T.kids]) x]
    simp [vs]
  | all n a => exact absurd rfl h4
/-- No kind but the three, anywhere. -/
inductive Plain3 : T → Prop
  | mk (t : T) : t.kind ≠ 4 → (∀ k ∈ t.kids, Plain3 k) → Plain3 t
theorem Plain3.no {t : T} (h : Plain3 t) : NoAll t := by
  induction h with
  | mk t h _ ih => exact noAll_of h ih
theorem Plain3.kid {t k : T} (h : Plain3 t) (hk : k ∈ t.kids) : Plain3 k := by cases h with | mk _ _ h => exact h k hk
theorem good_plain : ∀ t, T.Good t → Plain3 t := by
  refine T.kidsInd fun t ih h => .mk t ?_ fun k hk => ih k hk (good_kid h hk)
  cases t with
  | all n a => simp only [T.Good] at h
  | _ => simp [T.kind]
/-- Types that a statement starts with: closed under parts; of so many variables; never too great. -/
structure USet where
  V : List ByteArray
  O : T → Prop
  kid : ∀ t, O t → ∀ k ∈ t.kids, O k
  tin : ∀ t, O t → TIn V t
  var : ∀ x ∈ V, O (.var x)
  plain : ∀ t, O t → Plain3 t
  G : Sg → Prop
  P : T → T → Prop
  start : G T.var
  kids : ∀ a b, P a b → a.isV = false → b.isV = false → a.kids.length = b.kids.length → ∀ i (h1 : i < a.kids.length) (h2 : i < b.kids.length), P a.kids[i] b.kids[i]
  «at» : ∀ σ a b, G σ → P a b → P (sub σ a) (sub σ b)
  fin : ∀ f σ a b τ, Idem σ → G σ → P a b → uni f σ a b = some (.ok τ) → G τ
  le : ∀ σ, FromU O σ → G σ → ∀ t, O t → tsize (sub σ t) ≤ 900000000
  nm : ∀ x ∈ V, x.size ≤ 1000
  sz : ∀ t, O t → tsize t ≤ 400000
/-- Types of these variables, of at most so many parts. -/
def usetV (V : List ByteArray) (N : Nat) (h1 : 1 ≤ N) (h : N * N ^ V.length ≤ 900000000) (hn : ∀ x ∈ V, x.size ≤ 1000) (hN : N ≤ 400000) : USet where
  V := V
  O := fun t => TIn V t ∧ Plain3 t ∧ tsize t ≤ N
  kid := fun t ht k hk => ⟨fun x hx => by
      cases hv : t.isV with
      | true => rw [isV_var hv] at hk; cases hk
      | false => exact ht.1.kid hv hk x hx, ht.2.1.kid hk, by have := tsize_kid hk; have := ht.2.2; omega⟩
  tin := fun t ht => ht.1
  var := fun x hx => ⟨fun y hy => by simp [vs] at hy; exact hy ▸ hx, .mk _ (by simp [T.kind]) (fun k hk => by cases hk), by simpa [tsize] using h1⟩
  plain := fun t ht => ht.2.1
  G := fun _ => True
  P := fun _ _ => True
  start := trivial
  kids := fun _ _ _ _ _ _ _ _ _ => trivial
  «at» := fun _ _ _ _ _ => trivial
  fin := fun _ _ _ _ _ _ _ _ _ => trivial
  le := fun σ hF _ t ht => by
    have h0 : ∀ x ∈ V, tsize (σ x) ≤ N ^ V.length := fun x hx => from_le (V := V) (N := N) hF (fun t ht _ => ht.1) (fun t ht => ht.2.2) h1 hx
    have h2 := size_subs (σ := σ) (M := N ^ V.length) (Nat.one_le_pow _ _ h1) t fun y hy => h0 y (ht.1 y hy)
    have h3 := Nat.mul_le_mul_right (N ^ V.length) ht.2.2
    omega
  nm := hn
  sz := fun t ht => Nat.le_trans ht.2.2 hN
theorem v3_small : ∀ x ∈ V3, x.size ≤ 1000 := by
  intro x hx
  simp [V3] at hx
  rcases hx with rfl | rfl | rfl <;> decide
/-- What was found so far, of types that a statement makes. -/
structure UInv (S : USet) (σ : Sg) : Prop where
  idem : Idem σ
  src : FromU S.O σ
  vin : VIn S.V σ
  good : S.G σ
/-- A type within what was made, with what was found so far in it. -/
def UArg (S : USet) (σ : Sg) (a : T) : Prop := InstU S.O σ a
theorem UArg.kid {S : USet} {σ : Sg} {a k : T} (h : UArg S σ a) (hi : UInv S σ) (hv : (sub σ a).isV = false) (hk : k ∈ (sub σ a).kids) : UArg S σ k := InstU.kid S.kid h hi.src hi.idem hv hk
end Go.Proofs.YtdidgddcgjpokaaGreatDoor
/- The document's Then. -/
namespace Go.Proofs.YtdidgddcgjpokaaGreatDoor
open Go.RowKit Go.Sort Go.Lib
attribute [local go_sem] Oper.semAt_some

/-- A pair without its place. -/
def nt (x : PR) : ByteArray × T := (x.n, x.t)
end Go.Proofs.YtdidgddcgjpokaaGreatDoor
/- The document's bind. -/
namespace Go.Proofs.YtdidgddcgjpokaaGreatDoor
open Go.RowKit Go.Sort Go.Lib
attribute [local go_sem] Oper.semAt_some

end Go.Proofs.YtdidgddcgjpokaaGreatDoor
/- The document's unify. -/
namespace Go.Proofs.YtdidgddcgjpokaaGreatDoor
open Go.RowKit Go.Sort Go.Lib
attribute [local go_sem] Oper.semAt_some

end Go.Proofs.YtdidgddcgjpokaaGreatDoor
/- The document's UnifyAll. -/
namespace Go.Proofs.YtdidgddcgjpokaaGreatDoor
open Go.RowKit Go.Sort Go.Lib
attribute [local go_sem] Oper.semAt_some

end Go.Proofs.YtdidgddcgjpokaaGreatDoor
/- An error without a place, seen av plain data: paideiasee.Is. -/
namespace Go.Proofs.YtdidgddcgjpokaaGreatDoor
open Go.RowKit
attribute [local go_sem] Oper.semAt_some

end Go.Proofs.YtdidgddcgjpokaaGreatDoor
/- The types that are made of numbers: good ones, of a bounded text. -/
namespace Go.Proofs.YtdidgddcgjpokaaGreatDoor
open Go.RowKit
attribute [local go_sem] Oper.semAt_some
attribute [local go_sem ↓] Go.wp_at_zero Go.wp_at_succ

/-- What a maker of a type hands back. -/
def MadeN (B p : Nat) (a : Option Addr) (n c k m D : Nat) (w : World) (e : Ending) (w' : World) : Prop :=
  (∃ t u, e = .returned (tyV t u) ∧ (T.Good t ∧ Fits t ∧ (T.text t).length + 10 ≤ D) ∧ TyIn (fun k => w.heap.size ≤ k) w' t u) ∧ (∃ k', k' + 1 ≤ k + m ∧ SeqAt B p a n c k' w') ∧ MkFr B p w w'
/-- The end: the type is stored in the result's own block. -/
theorem made_fn {B p : Nat} {a : Option Addr} {n c k k' m D : Nat} {w W : World} {O : Obj} {t : T} {u x y z : Value} (hs : SeqAt B p a n c k' W) (hk : k' + 1 ≤ k + m) (hfr : MkFr B p (w.alloc O) W) (hp : p < w.heap.size)
    (_ : W.heap[w.heap.size]? = some (.cells #[.int .i64 0, .string ⟨#[]⟩, .slice none 0 0] 31 (0, 0))) (ht : TyIn (fun k => w.heap.size < k) W t u) (hg : T.Good t ∧ Fits t ∧ (T.text t).length + 10 ≤ D) :
    MadeN B p a n c k m D w (.returned (tyV t u)) (((W.setCell ⟨w.heap.size, 0, none⟩ x).setCell ⟨w.heap.size, 1, none⟩ y).setCell ⟨w.heap.size, 2, none⟩ z) := by
  have hk3 : ∀ i, i ≠ w.heap.size → (((W.setCell ⟨w.heap.size, 0, none⟩ x).setCell ⟨w.heap.size, 1, none⟩ y).setCell ⟨w.heap.size, 2, none⟩ z).heap[i]? = W.heap[i]? := fun i hi =>
    (Below.heap_setCell _ ⟨w.heap.size, 2, none⟩ _ i hi).trans ((Below.heap_setCell _ ⟨w.heap.size, 1, none⟩ _ i hi).trans (Below.heap_setCell _ ⟨w.heap.size, 0, none⟩ _ i hi))
  have hB := hs.1.1
  have hbel : Below B W (((W.setCell ⟨w.heap.size, 0, none⟩ x).setCell ⟨w.heap.size, 1, none⟩ y).setCell ⟨w.heap.size, 2, none⟩ z) :=
    (((Below.refl B W).setCell (p := ⟨w.heap.size, 0, none⟩) (by show B ≤ w.heap.size; omega) _).setCell (p := ⟨w.heap.size, 1, none⟩) (by show B ≤ w.heap.size; omega) _).setCell (p := ⟨w.heap.size, 2, none⟩) (by show B ≤ w.heap.size; omega) _
  refine ⟨⟨t, u, rfl, hg, (ht.keep fun k _ _ hk hh => (hk3 k (Nat.ne_of_gt hk)).trans hh).mono fun k hk => Nat.le_of_lt hk⟩, ⟨k', hk, ⟨hB, (hk3 p (by omega)).trans hs.1.2⟩, hs.2.keep hbel⟩, ?_, ?_⟩
  · exact (((Below.refl B w).alloc (by omega) O).trans hfr.1).trans hbel
  · intro i o hi hip
    have hlt := (Array.getElem?_eq_some_iff.1 hi).1
    exact (hk3 i (by omega)).trans (hfr.2 i o ((Below.heap_alloc w O i hlt).trans hi) hip)

theorem in_one {ok : Nat → Prop} {W : World} {t : T} {v : Value} (n : ByteArray) (hok : ok W.heap.size) (h : TyIn ok W t v) : TyIn ok (W.alloc (.cells #[.int .i64 t.kind, .string t.name, v] 31)) (.con n [t]) (.slice (some ⟨W.heap.size, 0, none⟩) 1 1) := by
  refine .row (.con n [t]) W.heap.size 1 #[.int .i64 t.kind, .string t.name, v] (0, 0) (fun _ => v) hok (alloc_new W _) (Nat.le_refl _) (fun i hi => ?_) (fun i hi => ?_)
  · obtain rfl : i = 0 := by simp [T.kids] at hi; exact hi
    exact ⟨rfl, rfl, rfl⟩
  · obtain rfl : i = 0 := by simp [T.kids] at hi; exact hi
    exact h.keep fun k _ _ _ hh => (Below.heap_alloc W _ k (Array.getElem?_eq_some_iff.1 hh).1).trans hh
theorem in_pair {ok : Nat → Prop} {W : World} {t t' c : T} {v v' : Value} {g : Nat} (hg : g = W.heap.size) (hc : c.kids = [t, t']) (hok : ok W.heap.size) (h : TyIn ok W t v) (h' : TyIn ok W t' v') : TyIn ok (W.alloc (.cells #[.int .i64 t.kind, .string t.name, v, .int .i64 t'.kind, .string t'.name, v'] 31)) c (.slice (some ⟨g, 0, none⟩) 2 2) := by
  subst hg
  have hl : c.kids.length = 2 := by rw [hc]; rfl
  have hkeep : ∀ (o : Obj) {t : T} {v : Value}, TyIn ok W t v → TyIn ok (W.alloc o) t v := fun o t v h => h.keep fun k _ _ _ hh => (Below.heap_alloc W _ k (Array.getElem?_eq_some_iff.1 hh).1).trans hh
  rw [show (Value.slice (some ⟨W.heap.size, 0, none⟩) 2 2) = .slice (some ⟨W.heap.size, 0, none⟩) c.kids.length 2 by rw [hl]]
  refine .row c W.heap.size 2 #[.int .i64 t.kind, .string t.name, v, .int .i64 t'.kind, .string t'.name, v'] (0, 0) (fun i => if i = 0 then v else v') hok (alloc_new W _) (by rw [hl]; exact Nat.le_refl _) (fun i hi => ?_) (fun i hi => ?_)
  · have hi2 : i < 2 := by omega
    have e : c.kids[i] = [t, t'][i] := by simp [hc]
    rw [e]
    match i, hi2 with
    | 0, _ => exact ⟨rfl, rfl, rfl⟩
    | 1, _ => exact ⟨rfl, rfl, rfl⟩
    | n + 2, h => omega
  · have hi2 : i < 2 := by omega
    have e : c.kids[i] = [t, t'][i] := by simp [hc]
    rw [e]
    match i, hi2 with
    | 0, _ => exact hkeep _ h
    | 1, _ => exact hkeep _ h'
    | n + 2, h => omega
set_option maxHeartbeats 1000000 in
theorem con_in {ok : Nat → Prop} (n : ByteArray) (a : Option Addr) (l : List T) (k c : Nat) (w : World) (h : TyIn ok w (.con n l) (.slice a k c)) :
    Calls Tryz.prog 53 #[.string n, .slice a k c] w fun e w' => (∃ u, e = .returned (tyV (.con n l) u) ∧ TyIn ok w' (.con n l) u) ∧ Below w.heap.size w w' := by
  have H := Lib.hid h; clear h
  go_enter Tryz.func53, Tryz.ntmps53
  go_wp2
  refine bodyPost_ret (v := tyV (.con n l) (.slice a k c)) (by simp [results, Tryz.results53, go_sem, tyV, T.kind, T.name]) rfl ⟨⟨_, rfl, H.out.keep fun k _ _ _ hh => (Below.heap_alloc w _ k (Array.getElem?_eq_some_iff.1 hh).1).trans hh⟩, (Below.refl _ w).alloc (Nat.le_refl _) _⟩
set_option maxHeartbeats 1000000 in
theorem fun2_in {ok : Nat → Prop} (x y : T) (a b : Option Addr) (c d : Nat) (w : World) (hok : ∀ k, w.heap.size ≤ k → ok k) (hx : TyIn ok w x (.slice a x.kids.length c)) (hy : TyIn ok w y (.slice b y.kids.length d)) :
    Calls Tryz.prog 54 #[tyV x (.slice a x.kids.length c), tyV y (.slice b y.kids.length d)] w fun e w' => (∃ u, e = .returned (tyV (.fn x y) u) ∧ TyIn ok w' (.fn x y) u) ∧ Below w.heap.size w w' := by
  have HX := Lib.hid hx; have HY := Lib.hid hy; have HK := Lib.hid hok
  clear hx hy hok
  simp only [tyV]
  go_enter Tryz.func54, Tryz.ntmps54
  go_wp2
  have k3 : ∀ (o1 o2 o3 : Obj) {t : T} {v : Value}, TyIn ok w t v → TyIn ok (((w.alloc o1).alloc o2).alloc o3) t v := fun o1 o2 o3 t v h => h.keep (fun k cs fz _ hh => (((keepT_alloc w o1).trans (keepT_alloc _ o2)).trans (keepT_alloc _ o3)) k cs fz hh)
  refine bodyPost_ret (v := .agg #[.int .i64 3, .string ⟨#[]⟩, .slice (some ⟨w.heap.size + 1 + 1 + 1, 0, none⟩) 2 2]) (by simp [results, Tryz.results54, go_sem]) rfl ⟨⟨_, rfl, ?_⟩, ?_⟩
  · exact in_pair (by simp) rfl (HK.out _ (by simp; omega)) (k3 _ _ _ HX.out) (k3 _ _ _ HY.out)
  · exact ((((Below.refl _ w).alloc (Nat.le_refl _) _).alloc (by simp) _).alloc (by simp; omega) _).alloc (by simp; omega) _

set_option maxHeartbeats 4000000 in
theorem make_n0 (B p : Nat) (a : Option Addr) (n c k : Nat) (w : World) (h : SeqAt B p a n c k w) (hk : k < 1152921504606846976) (hn : n < 1152921504606846976) :
    Calls Tryz.prog 24 #[.pointer (some ⟨p, 0, none⟩), .int .i64 0] w (MadeN B p a n c k 2 14 w) := by
  have hp := h.lt
  have HN := Lib.hid (fun o => next_any B p a n c k 9 (w.alloc o) (h.below ((Below.refl _ w).alloc (Nat.le_refl _) o)) (by decide) (by decide) hk hn)
  have HNe := Lib.hid (show w.heap.size ≠ p by omega)
  clear h
  go_enter Tryz.func24, Tryz.ntmps24
  go_wp2_with (go_at_call 30; refine (HN.out _).mono ?_)
  rintro e W1 ⟨⟨r, hr, rfl⟩, h1, h2⟩
  have hz := h2.2 _ _ (alloc_new w _) HNe.out
  obtain ⟨c0, c1, c2⟩ := three_cells hz
  have f0 := Lib.frozen_of_heap hz 0
  have f1 := Lib.frozen_of_heap hz 1
  have f2 := Lib.frozen_of_heap hz 2
  have HZ := Lib.hid hz; have H1 := Lib.hid h1; have H2 := Lib.hid h2
  have hzl := (Array.getElem?_eq_some_iff.1 hz).1
  clear hz h1 h2
  obtain ⟨z, hz⟩ : ∃ z : Int, (r : Int) = z := ⟨_, rfl⟩
  rw [hz]
  have h9 : z = 0 ∨ z = 1 ∨ z = 2 ∨ z = 3 ∨ z = 4 ∨ z = 5 ∨ z = 6 ∨ z = 7 ∨ z = 8 := by omega
  clear hz hr
  rcases h9 with rfl | rfl | rfl | rfl | rfl | rfl | rfl | rfl | rfl
  · go_wp2_with (go_at_call 25; refine (var_any _ _).mono ?_)
    rintro e W2 ⟨⟨u, rfl, hu⟩, hb⟩
    have HBT := Lib.hid (((Below.refl _ W1).alloc (Nat.le_refl _) _).trans (hb.mono (by simp)))
    clear hb
    obtain ⟨a2, n2, rfl⟩ := hu.shape
    have hz2 : W2.heap[w.heap.size]? = some (.cells #[.int .i64 0, .string ⟨#[]⟩, .slice none 0 0] 31 (0, 0)) := (HBT.out.block _ hzl).trans HZ.out
    obtain ⟨d0, d1, d2⟩ := three_cells hz2
    have g0 := Lib.frozen_of_heap hz2 0
    have g1 := Lib.frozen_of_heap hz2 1
    have g2 := Lib.frozen_of_heap hz2 2
    have HZ2 := Lib.hid hz2; have HU := Lib.hid hu
    clear hz2 hu c0 c1 c2 f0 f1 f2
    simp only [tyV, T.kind, T.name, List.length_nil]
    go_wp2
    exact bodyPost_ret (v := .agg #[.int .i64 1, .string ⟨#[97]⟩, .slice a2 0 n2]) (by have hc := set3_cells HZ2.out (.int .i64 1) (.string ⟨#[97]⟩) (.slice a2 0 n2); simp [results, Tryz.results24, go_sem, hc.1, hc.2.1, hc.2.2]) rfl (made_fn (t := .var ⟨#[97]⟩) (H1.out.below HBT.out) (by omega) (H2.out.trans (MkFr.of_below HBT.out (Nat.le_trans H1.out.1.1 (Nat.le_of_lt H1.out.lt)))) hp HZ2.out (.leaf _ _ _ rfl) (good_var (by decide) (by decide) (by decide)))
  · go_wp2_with (go_at_call 25; refine (var_any _ _).mono ?_)
    rintro e W2 ⟨⟨u, rfl, hu⟩, hb⟩
    have HBT := Lib.hid (((Below.refl _ W1).alloc (Nat.le_refl _) _).trans (hb.mono (by simp)))
    clear hb
    obtain ⟨a2, n2, rfl⟩ := hu.shape
    have hz2 : W2.heap[w.heap.size]? = some (.cells #[.int .i64 0, .string ⟨#[]⟩, .slice none 0 0] 31 (0, 0)) := (HBT.out.block _ hzl).trans HZ.out
    obtain ⟨d0, d1, d2⟩ := three_cells hz2
    have g0 := Lib.frozen_of_heap hz2 0
    have g1 := Lib.frozen_of_heap hz2 1
    have g2 := Lib.frozen_of_heap hz2 2
    have HZ2 := Lib.hid hz2; have HU := Lib.hid hu
    clear hz2 hu c0 c1 c2 f0 f1 f2
    simp only [tyV, T.kind, T.name, List.length_nil]
    go_wp2
    exact bodyPost_ret (v := .agg #[.int .i64 1, .string ⟨#[98]⟩, .slice a2 0 n2]) (by have hc := set3_cells HZ2.out (.int .i64 1) (.string ⟨#[98]⟩) (.slice a2 0 n2); simp [results, Tryz.results24, go_sem, hc.1, hc.2.1, hc.2.2]) rfl (made_fn (t := .var ⟨#[98]⟩) (H1.out.below HBT.out) (by omega) (H2.out.trans (MkFr.of_below HBT.out (Nat.le_trans H1.out.1.1 (Nat.le_of_lt H1.out.lt)))) hp HZ2.out (.leaf _ _ _ rfl) (good_var (by decide) (by decide) (by decide)))
  · go_wp2_with (go_at_call 25; refine (var_any _ _).mono ?_)
    rintro e W2 ⟨⟨u, rfl, hu⟩, hb⟩
    have HBT := Lib.hid (((Below.refl _ W1).alloc (Nat.le_refl _) _).trans (hb.mono (by simp)))
    clear hb
    obtain ⟨a2, n2, rfl⟩ := hu.shape
    have hz2 : W2.heap[w.heap.size]? = some (.cells #[.int .i64 0, .string ⟨#[]⟩, .slice none 0 0] 31 (0, 0)) := (HBT.out.block _ hzl).trans HZ.out
    obtain ⟨d0, d1, d2⟩ := three_cells hz2
    have g0 := Lib.frozen_of_heap hz2 0
    have g1 := Lib.frozen_of_heap hz2 1
    have g2 := Lib.frozen_of_heap hz2 2
    have HZ2 := Lib.hid hz2; have HU := Lib.hid hu
    clear hz2 hu c0 c1 c2 f0 f1 f2
    simp only [tyV, T.kind, T.name, List.length_nil]
    go_wp2
    exact bodyPost_ret (v := .agg #[.int .i64 1, .string ⟨#[99]⟩, .slice a2 0 n2]) (by have hc := set3_cells HZ2.out (.int .i64 1) (.string ⟨#[99]⟩) (.slice a2 0 n2); simp [results, Tryz.results24, go_sem, hc.1, hc.2.1, hc.2.2]) rfl (made_fn (t := .var ⟨#[99]⟩) (H1.out.below HBT.out) (by omega) (H2.out.trans (MkFr.of_below HBT.out (Nat.le_trans H1.out.1.1 (Nat.le_of_lt H1.out.lt)))) hp HZ2.out (.leaf _ _ _ rfl) (good_var (by decide) (by decide) (by decide)))
  · go_wp2_with (go_at_call 53; refine (con_any _ none [] 0 0 _ (TysAt.nil _ _ _)).mono ?_)
    rintro e W2 ⟨⟨u, rfl, hu⟩, hb⟩
    have HBT := Lib.hid hb
    clear hb
    obtain ⟨a2, n2, rfl⟩ := hu.shape
    have hz2 : W2.heap[w.heap.size]? = some (.cells #[.int .i64 0, .string ⟨#[]⟩, .slice none 0 0] 31 (0, 0)) := (HBT.out.block _ hzl).trans HZ.out
    obtain ⟨d0, d1, d2⟩ := three_cells hz2
    have g0 := Lib.frozen_of_heap hz2 0
    have g1 := Lib.frozen_of_heap hz2 1
    have g2 := Lib.frozen_of_heap hz2 2
    have HZ2 := Lib.hid hz2; have HU := Lib.hid hu
    clear hz2 hu c0 c1 c2 f0 f1 f2
    simp only [tyV, T.kind, T.name, List.length_nil]
    go_wp2
    exact bodyPost_ret (v := .agg #[.int .i64 2, .string ⟨#[73, 110, 116]⟩, .slice a2 0 n2]) (by have hc := set3_cells HZ2.out (.int .i64 2) (.string ⟨#[73, 110, 116]⟩) (.slice a2 0 n2); simp [results, Tryz.results24, go_sem, hc.1, hc.2.1, hc.2.2]) rfl (made_fn (t := .con ⟨#[73, 110, 116]⟩ []) (H1.out.below HBT.out) (by omega) (H2.out.trans (MkFr.of_below HBT.out (Nat.le_trans H1.out.1.1 (Nat.le_of_lt H1.out.lt)))) hp HZ2.out (.leaf _ _ _ rfl) (good_con0 (by decide) (by decide) (by decide)))
  · go_wp2_with (go_at_call 53; refine (con_any _ none [] 0 0 _ (TysAt.nil _ _ _)).mono ?_)
    rintro e W2 ⟨⟨u, rfl, hu⟩, hb⟩
    have HBT := Lib.hid hb
    clear hb
    obtain ⟨a2, n2, rfl⟩ := hu.shape
    have hz2 : W2.heap[w.heap.size]? = some (.cells #[.int .i64 0, .string ⟨#[]⟩, .slice none 0 0] 31 (0, 0)) := (HBT.out.block _ hzl).trans HZ.out
    obtain ⟨d0, d1, d2⟩ := three_cells hz2
    have g0 := Lib.frozen_of_heap hz2 0
    have g1 := Lib.frozen_of_heap hz2 1
    have g2 := Lib.frozen_of_heap hz2 2
    have HZ2 := Lib.hid hz2; have HU := Lib.hid hu
    clear hz2 hu c0 c1 c2 f0 f1 f2
    simp only [tyV, T.kind, T.name, List.length_nil]
    go_wp2
    exact bodyPost_ret (v := .agg #[.int .i64 2, .string ⟨#[66, 111, 111, 108]⟩, .slice a2 0 n2]) (by have hc := set3_cells HZ2.out (.int .i64 2) (.string ⟨#[66, 111, 111, 108]⟩) (.slice a2 0 n2); simp [results, Tryz.results24, go_sem, hc.1, hc.2.1, hc.2.2]) rfl (made_fn (t := .con ⟨#[66, 111, 111, 108]⟩ []) (H1.out.below HBT.out) (by omega) (H2.out.trans (MkFr.of_below HBT.out (Nat.le_trans H1.out.1.1 (Nat.le_of_lt H1.out.lt)))) hp HZ2.out (.leaf _ _ _ rfl) (good_con0 (by decide) (by decide) (by decide)))
  · go_wp2_with (go_at_call 25; refine (var_any _ _).mono ?_)
    rintro e W2 ⟨⟨u, rfl, hu⟩, hb⟩
    have HBT := Lib.hid (((Below.refl _ W1).alloc (Nat.le_refl _) _).trans (hb.mono (by simp)))
    clear hb
    obtain ⟨a2, n2, rfl⟩ := hu.shape
    have hz2 : W2.heap[w.heap.size]? = some (.cells #[.int .i64 0, .string ⟨#[]⟩, .slice none 0 0] 31 (0, 0)) := (HBT.out.block _ hzl).trans HZ.out
    obtain ⟨d0, d1, d2⟩ := three_cells hz2
    have g0 := Lib.frozen_of_heap hz2 0
    have g1 := Lib.frozen_of_heap hz2 1
    have g2 := Lib.frozen_of_heap hz2 2
    have HZ2 := Lib.hid hz2; have HU := Lib.hid hu
    clear hz2 hu c0 c1 c2 f0 f1 f2
    simp only [tyV, T.kind, T.name, List.length_nil]
    go_wp2
    exact bodyPost_ret (v := .agg #[.int .i64 1, .string ⟨#[97]⟩, .slice a2 0 n2]) (by have hc := set3_cells HZ2.out (.int .i64 1) (.string ⟨#[97]⟩) (.slice a2 0 n2); simp [results, Tryz.results24, go_sem, hc.1, hc.2.1, hc.2.2]) rfl (made_fn (t := .var ⟨#[97]⟩) (H1.out.below HBT.out) (by omega) (H2.out.trans (MkFr.of_below HBT.out (Nat.le_trans H1.out.1.1 (Nat.le_of_lt H1.out.lt)))) hp HZ2.out (.leaf _ _ _ rfl) (good_var (by decide) (by decide) (by decide)))
  · go_wp2_with (go_at_call 25; refine (var_any _ _).mono ?_)
    rintro e W2 ⟨⟨u, rfl, hu⟩, hb⟩
    have HBT := Lib.hid (((Below.refl _ W1).alloc (Nat.le_refl _) _).trans (hb.mono (by simp)))
    clear hb
    obtain ⟨a2, n2, rfl⟩ := hu.shape
    have hz2 : W2.heap[w.heap.size]? = some (.cells #[.int .i64 0, .string ⟨#[]⟩, .slice none 0 0] 31 (0, 0)) := (HBT.out.block _ hzl).trans HZ.out
    obtain ⟨d0, d1, d2⟩ := three_cells hz2
    have g0 := Lib.frozen_of_heap hz2 0
    have g1 := Lib.frozen_of_heap hz2 1
    have g2 := Lib.frozen_of_heap hz2 2
    have HZ2 := Lib.hid hz2; have HU := Lib.hid hu
    clear hz2 hu c0 c1 c2 f0 f1 f2
    simp only [tyV, T.kind, T.name, List.length_nil]
    go_wp2
    exact bodyPost_ret (v := .agg #[.int .i64 1, .string ⟨#[98]⟩, .slice a2 0 n2]) (by have hc := set3_cells HZ2.out (.int .i64 1) (.string ⟨#[98]⟩) (.slice a2 0 n2); simp [results, Tryz.results24, go_sem, hc.1, hc.2.1, hc.2.2]) rfl (made_fn (t := .var ⟨#[98]⟩) (H1.out.below HBT.out) (by omega) (H2.out.trans (MkFr.of_below HBT.out (Nat.le_trans H1.out.1.1 (Nat.le_of_lt H1.out.lt)))) hp HZ2.out (.leaf _ _ _ rfl) (good_var (by decide) (by decide) (by decide)))
  · go_wp2_with (go_at_call 25; refine (var_any _ _).mono ?_)
    rintro e W2 ⟨⟨u, rfl, hu⟩, hb⟩
    have HBT := Lib.hid (((Below.refl _ W1).alloc (Nat.le_refl _) _).trans (hb.mono (by simp)))
    clear hb
    obtain ⟨a2, n2, rfl⟩ := hu.shape
    have hz2 : W2.heap[w.heap.size]? = some (.cells #[.int .i64 0, .string ⟨#[]⟩, .slice none 0 0] 31 (0, 0)) := (HBT.out.block _ hzl).trans HZ.out
    obtain ⟨d0, d1, d2⟩ := three_cells hz2
    have g0 := Lib.frozen_of_heap hz2 0
    have g1 := Lib.frozen_of_heap hz2 1
    have g2 := Lib.frozen_of_heap hz2 2
    have HZ2 := Lib.hid hz2; have HU := Lib.hid hu
    clear hz2 hu c0 c1 c2 f0 f1 f2
    simp only [tyV, T.kind, T.name, List.length_nil]
    go_wp2
    exact bodyPost_ret (v := .agg #[.int .i64 1, .string ⟨#[99]⟩, .slice a2 0 n2]) (by have hc := set3_cells HZ2.out (.int .i64 1) (.string ⟨#[99]⟩) (.slice a2 0 n2); simp [results, Tryz.results24, go_sem, hc.1, hc.2.1, hc.2.2]) rfl (made_fn (t := .var ⟨#[99]⟩) (H1.out.below HBT.out) (by omega) (H2.out.trans (MkFr.of_below HBT.out (Nat.le_trans H1.out.1.1 (Nat.le_of_lt H1.out.lt)))) hp HZ2.out (.leaf _ _ _ rfl) (good_var (by decide) (by decide) (by decide)))
  · go_wp2_with (go_at_call 53; refine (con_any _ none [] 0 0 _ (TysAt.nil _ _ _)).mono ?_)
    rintro e W2 ⟨⟨u, rfl, hu⟩, hb⟩
    have HBT := Lib.hid hb
    clear hb
    obtain ⟨a2, n2, rfl⟩ := hu.shape
    have hz2 : W2.heap[w.heap.size]? = some (.cells #[.int .i64 0, .string ⟨#[]⟩, .slice none 0 0] 31 (0, 0)) := (HBT.out.block _ hzl).trans HZ.out
    obtain ⟨d0, d1, d2⟩ := three_cells hz2
    have g0 := Lib.frozen_of_heap hz2 0
    have g1 := Lib.frozen_of_heap hz2 1
    have g2 := Lib.frozen_of_heap hz2 2
    have HZ2 := Lib.hid hz2; have HU := Lib.hid hu
    clear hz2 hu c0 c1 c2 f0 f1 f2
    simp only [tyV, T.kind, T.name, List.length_nil]
    go_wp2
    exact bodyPost_ret (v := .agg #[.int .i64 2, .string ⟨#[73, 110, 116]⟩, .slice a2 0 n2]) (by have hc := set3_cells HZ2.out (.int .i64 2) (.string ⟨#[73, 110, 116]⟩) (.slice a2 0 n2); simp [results, Tryz.results24, go_sem, hc.1, hc.2.1, hc.2.2]) rfl (made_fn (t := .con ⟨#[73, 110, 116]⟩ []) (H1.out.below HBT.out) (by omega) (H2.out.trans (MkFr.of_below HBT.out (Nat.le_trans H1.out.1.1 (Nat.le_of_lt H1.out.lt)))) hp HZ2.out (.leaf _ _ _ rfl) (good_con0 (by decide) (by decide) (by decide)))

end Go.Proofs.YtdidgddcgjpokaaGreatDoor
/- The types that are made of numbers: a level more. -/
namespace Go.Proofs.YtdidgddcgjpokaaGreatDoor
open Go.RowKit
attribute [local go_sem] Oper.semAt_some
attribute [local go_sem ↓] Go.wp_at_zero Go.wp_at_succ

set_option maxHeartbeats 4000000 in
theorem make_stepN (d : Int) (hd1 : 1 ≤ d) (hd2 : d ≤ 100) (M D : Nat) (hM : 2 ≤ M) (hD : 14 ≤ D) (B p : Nat) (a : Option Addr) (n c k : Nat) (w : World) (h : SeqAt B p a n c k w) (hk : k + 2 * M < 1152921504606846976) (hn : n < 1152921504606846976)
    (IH : ∀ k w, SeqAt B p a n c k w → k + M < 1152921504606846976 → Calls Tryz.prog 24 #[.pointer (some ⟨p, 0, none⟩), .int .i64 (d - 1)] w (MadeN B p a n c k M D w)) :
    Calls Tryz.prog 24 #[.pointer (some ⟨p, 0, none⟩), .int .i64 d] w (MadeN B p a n c k (2 * M) (2 * D) w) := by
  have hp := h.lt
  have HN := Lib.hid (fun o => next_any B p a n c k 9 (w.alloc o) (h.below ((Below.refl _ w).alloc (Nat.le_refl _) o)) (by decide) (by decide) (by omega) hn)
  have HNe := Lib.hid (show w.heap.size ≠ p by omega)
  have hw : IntKind.i64.wrap (d - 1) = d - 1 := by rw [IntKind.wrap_i64]; omega
  have HI := Lib.hid IH
  have HI2 := Lib.hid IH
  rw [← hw] at HI2
  clear hw
  clear h IH
  go_enter Tryz.func24, Tryz.ntmps24
  go_wp2_with (go_at_call 30; refine (HN.out _).mono ?_)
  rintro e W1 ⟨⟨r, hr, rfl⟩, h1, h2⟩
  have hz := h2.2 _ _ (alloc_new w _) HNe.out
  obtain ⟨c0, c1, c2⟩ := three_cells hz
  have f0 := Lib.frozen_of_heap hz 0
  have f1 := Lib.frozen_of_heap hz 1
  have f2 := Lib.frozen_of_heap hz 2
  have HZ := Lib.hid hz; have H1 := Lib.hid h1; have H2 := Lib.hid h2
  have hzl := (Array.getElem?_eq_some_iff.1 hz).1
  clear hz h1 h2
  obtain ⟨z, hz⟩ : ∃ z : Int, (r : Int) = z := ⟨_, rfl⟩
  rw [hz]
  have h9 : z = 0 ∨ z = 1 ∨ z = 2 ∨ z = 3 ∨ z = 4 ∨ z = 5 ∨ z = 6 ∨ z = 7 ∨ z = 8 := by omega
  clear hz hr
  rcases h9 with rfl | rfl | rfl | rfl | rfl | rfl | rfl | rfl | rfl
  · go_wp2_with (go_at_call 25; refine (var_any _ _).mono ?_)
    rintro e W2 ⟨⟨u, rfl, hu⟩, hb⟩
    have HBT := Lib.hid (((Below.refl _ W1).alloc (Nat.le_refl _) _).trans (hb.mono (by simp)))
    clear hb
    obtain ⟨a2, n2, rfl⟩ := hu.shape
    have hz2 : W2.heap[w.heap.size]? = some (.cells #[.int .i64 0, .string ⟨#[]⟩, .slice none 0 0] 31 (0, 0)) := (HBT.out.block _ hzl).trans HZ.out
    obtain ⟨d0, d1, d2⟩ := three_cells hz2
    have g0 := Lib.frozen_of_heap hz2 0
    have g1 := Lib.frozen_of_heap hz2 1
    have g2 := Lib.frozen_of_heap hz2 2
    have HZ2 := Lib.hid hz2; have HU := Lib.hid hu
    clear hz2 hu c0 c1 c2 f0 f1 f2
    simp only [tyV, T.kind, T.name, List.length_nil]
    go_wp2
    exact bodyPost_ret (v := .agg #[.int .i64 1, .string ⟨#[97]⟩, .slice a2 0 n2]) (by have hc := set3_cells HZ2.out (.int .i64 1) (.string ⟨#[97]⟩) (.slice a2 0 n2); simp [results, Tryz.results24, go_sem, hc.1, hc.2.1, hc.2.2]) rfl (made_fn (t := .var ⟨#[97]⟩) (H1.out.below HBT.out) (by omega) (H2.out.trans (MkFr.of_below HBT.out (Nat.le_trans H1.out.1.1 (Nat.le_of_lt H1.out.lt)))) hp HZ2.out (.leaf _ _ _ rfl) (good_var (by decide) (by decide) (by omega)))
  · go_wp2_with (go_at_call 25; refine (var_any _ _).mono ?_)
    rintro e W2 ⟨⟨u, rfl, hu⟩, hb⟩
    have HBT := Lib.hid (((Below.refl _ W1).alloc (Nat.le_refl _) _).trans (hb.mono (by simp)))
    clear hb
    obtain ⟨a2, n2, rfl⟩ := hu.shape
    have hz2 : W2.heap[w.heap.size]? = some (.cells #[.int .i64 0, .string ⟨#[]⟩, .slice none 0 0] 31 (0, 0)) := (HBT.out.block _ hzl).trans HZ.out
    obtain ⟨d0, d1, d2⟩ := three_cells hz2
    have g0 := Lib.frozen_of_heap hz2 0
    have g1 := Lib.frozen_of_heap hz2 1
    have g2 := Lib.frozen_of_heap hz2 2
    have HZ2 := Lib.hid hz2; have HU := Lib.hid hu
    clear hz2 hu c0 c1 c2 f0 f1 f2
    simp only [tyV, T.kind, T.name, List.length_nil]
    go_wp2
    exact bodyPost_ret (v := .agg #[.int .i64 1, .string ⟨#[98]⟩, .slice a2 0 n2]) (by have hc := set3_cells HZ2.out (.int .i64 1) (.string ⟨#[98]⟩) (.slice a2 0 n2); simp [results, Tryz.results24, go_sem, hc.1, hc.2.1, hc.2.2]) rfl (made_fn (t := .var ⟨#[98]⟩) (H1.out.below HBT.out) (by omega) (H2.out.trans (MkFr.of_below HBT.out (Nat.le_trans H1.out.1.1 (Nat.le_of_lt H1.out.lt)))) hp HZ2.out (.leaf _ _ _ rfl) (good_var (by decide) (by decide) (by omega)))
  · go_wp2_with (go_at_call 25; refine (var_any _ _).mono ?_)
    rintro e W2 ⟨⟨u, rfl, hu⟩, hb⟩
    have HBT := Lib.hid (((Below.refl _ W1).alloc (Nat.le_refl _) _).trans (hb.mono (by simp)))
    clear hb
    obtain ⟨a2, n2, rfl⟩ := hu.shape
    have hz2 : W2.heap[w.heap.size]? = some (.cells #[.int .i64 0, .string ⟨#[]⟩, .slice none 0 0] 31 (0, 0)) := (HBT.out.block _ hzl).trans HZ.out
    obtain ⟨d0, d1, d2⟩ := three_cells hz2
    have g0 := Lib.frozen_of_heap hz2 0
    have g1 := Lib.frozen_of_heap hz2 1
    have g2 := Lib.frozen_of_heap hz2 2
    have HZ2 := Lib.hid hz2; have HU := Lib.hid hu
    clear hz2 hu c0 c1 c2 f0 f1 f2
    simp only [tyV, T.kind, T.name, List.length_nil]
    go_wp2
    exact bodyPost_ret (v := .agg #[.int .i64 1, .string ⟨#[99]⟩, .slice a2 0 n2]) (by have hc := set3_cells HZ2.out (.int .i64 1) (.string ⟨#[99]⟩) (.slice a2 0 n2); simp [results, Tryz.results24, go_sem, hc.1, hc.2.1, hc.2.2]) rfl (made_fn (t := .var ⟨#[99]⟩) (H1.out.below HBT.out) (by omega) (H2.out.trans (MkFr.of_below HBT.out (Nat.le_trans H1.out.1.1 (Nat.le_of_lt H1.out.lt)))) hp HZ2.out (.leaf _ _ _ rfl) (good_var (by decide) (by decide) (by omega)))
  · go_wp2_with (go_at_call 53; refine (con_any _ none [] 0 0 _ (TysAt.nil _ _ _)).mono ?_)
    rintro e W2 ⟨⟨u, rfl, hu⟩, hb⟩
    have HBT := Lib.hid hb
    clear hb
    obtain ⟨a2, n2, rfl⟩ := hu.shape
    have hz2 : W2.heap[w.heap.size]? = some (.cells #[.int .i64 0, .string ⟨#[]⟩, .slice none 0 0] 31 (0, 0)) := (HBT.out.block _ hzl).trans HZ.out
    obtain ⟨d0, d1, d2⟩ := three_cells hz2
    have g0 := Lib.frozen_of_heap hz2 0
    have g1 := Lib.frozen_of_heap hz2 1
    have g2 := Lib.frozen_of_heap hz2 2
    have HZ2 := Lib.hid hz2; have HU := Lib.hid hu
    clear hz2 hu c0 c1 c2 f0 f1 f2
    simp only [tyV, T.kind, T.name, List.length_nil]
    go_wp2
    exact bodyPost_ret (v := .agg #[.int .i64 2, .string ⟨#[73, 110, 116]⟩, .slice a2 0 n2]) (by have hc := set3_cells HZ2.out (.int .i64 2) (.string ⟨#[73, 110, 116]⟩) (.slice a2 0 n2); simp [results, Tryz.results24, go_sem, hc.1, hc.2.1, hc.2.2]) rfl (made_fn (t := .con ⟨#[73, 110, 116]⟩ []) (H1.out.below HBT.out) (by omega) (H2.out.trans (MkFr.of_below HBT.out (Nat.le_trans H1.out.1.1 (Nat.le_of_lt H1.out.lt)))) hp HZ2.out (.leaf _ _ _ rfl) (good_con0 (by decide) (by decide) (by omega)))
  · go_wp2_with (go_at_call 53; refine (con_any _ none [] 0 0 _ (TysAt.nil _ _ _)).mono ?_)
    rintro e W2 ⟨⟨u, rfl, hu⟩, hb⟩
    have HBT := Lib.hid hb
    clear hb
    obtain ⟨a2, n2, rfl⟩ := hu.shape
    have hz2 : W2.heap[w.heap.size]? = some (.cells #[.int .i64 0, .string ⟨#[]⟩, .slice none 0 0] 31 (0, 0)) := (HBT.out.block _ hzl).trans HZ.out
    obtain ⟨d0, d1, d2⟩ := three_cells hz2
    have g0 := Lib.frozen_of_heap hz2 0
    have g1 := Lib.frozen_of_heap hz2 1
    have g2 := Lib.frozen_of_heap hz2 2
    have HZ2 := Lib.hid hz2; have HU := Lib.hid hu
    clear hz2 hu c0 c1 c2 f0 f1 f2
    simp only [tyV, T.kind, T.name, List.length_nil]
    go_wp2
    exact bodyPost_ret (v := .agg #[.int .i64 2, .string ⟨#[66, 111, 111, 108]⟩, .slice a2 0 n2]) (by have hc := set3_cells HZ2.out (.int .i64 2) (.string ⟨#[66, 111, 111, 108]⟩) (.slice a2 0 n2); simp [results, Tryz.results24, go_sem, hc.1, hc.2.1, hc.2.2]) rfl (made_fn (t := .con ⟨#[66, 111, 111, 108]⟩ []) (H1.out.below HBT.out) (by omega) (H2.out.trans (MkFr.of_below HBT.out (Nat.le_trans H1.out.1.1 (Nat.le_of_lt H1.out.lt)))) hp HZ2.out (.leaf _ _ _ rfl) (good_con0 (by decide) (by decide) (by omega)))
  · go_wp2_with (go_at_call 24; refine (HI.out _ _ H1.out (by omega)).mono ?_)
    rintro e W2 ⟨⟨t, u, rfl, hg, hu⟩, ⟨k2, hk2, hs2⟩, hf2⟩
    obtain ⟨a2, n2, rfl⟩ := hu.shape
    have hz2 := hf2.2 _ _ HZ.out HNe.out
    have hzl2 := (Array.getElem?_eq_some_iff.1 hz2).1
    have HZ2 := Lib.hid hz2; have HU := Lib.hid hu; have HS2 := Lib.hid hs2; have HF2 := Lib.hid hf2; have HG := Lib.hid hg
    clear hz2 hu hs2 hf2 hg c0 c1 c2 f0 f1 f2
    simp only [tyV]
    go_wp2_with (go_at_call 53; refine (con_in (ok := fun k => w.heap.size < k) _ _ [t] 1 1 _ (in_one _ hzl2 (HU.out.mono fun k hk => Nat.lt_of_lt_of_le hzl hk))).mono ?_)
    rintro e W3 ⟨⟨u3, rfl, hu3⟩, hb⟩
    obtain ⟨a3, n3, rfl⟩ := hu3.shape
    have HBT := Lib.hid (((Below.refl _ W2).alloc (Nat.le_refl _) _).trans (hb.mono (by simp)))
    have hz3 : W3.heap[w.heap.size]? = some (.cells #[.int .i64 0, .string ⟨#[]⟩, .slice none 0 0] 31 (0, 0)) := (HBT.out.block _ hzl2).trans HZ2.out
    obtain ⟨d0, d1, d2⟩ := three_cells hz3
    have g0 := Lib.frozen_of_heap hz3 0
    have g1 := Lib.frozen_of_heap hz3 1
    have g2 := Lib.frozen_of_heap hz3 2
    have HZ3 := Lib.hid hz3; have HU3 := Lib.hid hu3
    clear hz3 hu3 hb
    simp only [tyV, show (T.con ⟨#[76, 105, 115, 116]⟩ [t]).kind = 2 from rfl, show (T.con ⟨#[76, 105, 115, 116]⟩ [t]).name = ⟨#[76, 105, 115, 116]⟩ from rfl, show (T.con ⟨#[76, 105, 115, 116]⟩ [t]).kids.length = 1 from rfl]
    go_wp2
    exact bodyPost_ret (v := .agg #[.int .i64 2, .string ⟨#[76, 105, 115, 116]⟩, .slice a3 1 n3]) (by have hc := set3_cells HZ3.out (.int .i64 2) (.string ⟨#[76, 105, 115, 116]⟩) (.slice a3 1 n3); simp [results, Tryz.results24, go_sem, hc.1, hc.2.1, hc.2.2]) rfl (made_fn (t := .con ⟨#[76, 105, 115, 116]⟩ [t]) (HS2.out.below HBT.out) (by omega) ((H2.out.trans HF2.out).trans (MkFr.of_below HBT.out (Nat.le_trans HS2.out.1.1 (Nat.le_of_lt HS2.out.lt)))) hp HZ3.out HU3.out (good_con1 (by decide) (by decide) HG.out (Nat.le_refl _) hD))
  · go_wp2_with (go_at_call 24; refine (HI.out _ _ H1.out (by omega)).mono ?_)
    rintro e W2 ⟨⟨t, u, rfl, hg, hu⟩, ⟨k2, hk2, hs2⟩, hf2⟩
    obtain ⟨a2, n2, rfl⟩ := hu.shape
    have hz2 := hf2.2 _ _ HZ.out HNe.out
    have hzl2 := (Array.getElem?_eq_some_iff.1 hz2).1
    have HZ2 := Lib.hid hz2; have HU := Lib.hid hu; have HS2 := Lib.hid hs2; have HF2 := Lib.hid hf2; have HG := Lib.hid hg
    clear hz2 hu hs2 hf2 hg c0 c1 c2 f0 f1 f2
    simp only [tyV]
    go_wp2_with fail
    have hbx := alloc_new W2 (.cells #[.int .i64 t.kind, .string t.name, .slice a2 t.kids.length n2] 31)
    have HBX := Lib.hid hbx
    have hne2 : W2.heap.size ≠ p := by have := HS2.out.lt; omega
    have HNe2 := Lib.hid hne2
    clear hbx hne2
    go_region_with (first
      | (go_at_call 24; refine (HI2.out k2 _ ?hs ?hk).mono ?_; (case hs => exact SeqAt.drew (HS2.out.below ((Below.refl _ W2).alloc (Nat.le_refl _) _))); (case hk => omega); rintro e W3 ⟨⟨t3, u3, rfl, hg3, hu3⟩, ⟨k3, hk3, hs3⟩, hf3'⟩; have hf3 := MkFr.of_drew hf3'; clear hf3'; obtain ⟨a3, n3, rfl⟩ := hu3.shape; have hbx3 := hf3.2 _ _ HBX.out HNe2.out; obtain ⟨x0, x1, x2⟩ := three_cells hbx3; have hz3 := hf3.2 _ _ ((Below.heap_alloc W2 _ _ hzl2).trans HZ2.out) HNe.out; have hzl3 := (Array.getElem?_eq_some_iff.1 hz3).1; have HZ3 := Lib.hid hz3; have HS3 := Lib.hid hs3; have HF3 := Lib.hid hf3; have HG3 := Lib.hid hg3; have HUt := Lib.hid ((HU.out.mono (ok' := fun k => w.heap.size < k) fun k hk => Nat.lt_of_lt_of_le hzl hk).keep (fun k cs fz _ hh => ((keepT_alloc W2 _).trans (KeepT.of_mk hf3 (HS2.out.below ((Below.refl _ W2).alloc (Nat.le_refl _) _)))) k cs fz hh)); have hu3' : TyIn (fun k => w.heap.size < k) W3 t3 (.slice a3 t3.kids.length n3) := hu3.mono (fun k hk => by have h9 : (W2.alloc (.cells #[.int .i64 t.kind, .string t.name, .slice a2 t.kids.length n2] 31)).heap.size ≤ k := hk; simp at h9; omega); have HU3 := Lib.hid hu3'; clear hz3 hs3 hf3 hu3 hu3' hg3 hbx3; simp only [tyV])
      | (go_at_call 53; refine (con_in (ok := fun k => w.heap.size < k) _ _ [t, t3] 2 2 _ (in_pair rfl rfl hzl3 HUt.out HU3.out)).mono ?_; rintro e W4 ⟨⟨u4, rfl, hu4⟩, hb4⟩; obtain ⟨a4, n4, rfl⟩ := hu4.shape; have HBT := Lib.hid (((Below.refl _ W3).alloc (Nat.le_refl _) _).trans (hb4.mono (by simp))); have hz4 : W4.heap[w.heap.size]? = some (.cells #[.int .i64 0, .string ⟨#[]⟩, .slice none 0 0] 31 (0, 0)) := (HBT.out.block _ hzl3).trans HZ3.out; obtain ⟨d0, d1, d2⟩ := three_cells hz4; have g0 := Lib.frozen_of_heap hz4 0; have g1 := Lib.frozen_of_heap hz4 1; have g2 := Lib.frozen_of_heap hz4 2; have HZ4 := Lib.hid hz4; have HU4 := Lib.hid hu4; clear hz4 hu4 hb4; simp only [tyV, show (T.con ⟨#[80, 97, 105, 114]⟩ [t, t3]).kind = 2 from rfl, show (T.con ⟨#[80, 97, 105, 114]⟩ [t, t3]).name = ⟨#[80, 97, 105, 114]⟩ from rfl, show (T.con ⟨#[80, 97, 105, 114]⟩ [t, t3]).kids.length = 2 from rfl]))
    all_goals go_wp2
    all_goals exact bodyPost_ret (v := .agg #[.int .i64 2, .string ⟨#[80, 97, 105, 114]⟩, .slice a4 2 n4]) (by have hc := set3_cells HZ4.out (.int .i64 2) (.string ⟨#[80, 97, 105, 114]⟩) (.slice a4 2 n4); simp [results, Tryz.results24, go_sem, hc.1, hc.2.1, hc.2.2]) rfl (made_fn (t := T.con ⟨#[80, 97, 105, 114]⟩ [t, t3]) (HS3.out.below HBT.out) (by omega) (((H2.out.trans HF2.out).trans ((MkFr.of_below ((Below.refl _ W2).alloc (Nat.le_refl _) _) (Nat.le_trans HS2.out.1.1 (Nat.le_of_lt HS2.out.lt))).trans HF3.out)).trans (MkFr.of_below HBT.out (Nat.le_trans HS3.out.1.1 (Nat.le_of_lt HS3.out.lt)))) hp HZ4.out HU4.out (good_con2 (by decide) (by decide) HG.out HG3.out (Nat.le_refl _)))
  · go_wp2_with (go_at_call 24; refine (HI.out _ _ H1.out (by omega)).mono ?_)
    rintro e W2 ⟨⟨t, u, rfl, hg, hu⟩, ⟨k2, hk2, hs2⟩, hf2⟩
    obtain ⟨a2, n2, rfl⟩ := hu.shape
    have hz2 := hf2.2 _ _ HZ.out HNe.out
    have hzl2 := (Array.getElem?_eq_some_iff.1 hz2).1
    have HZ2 := Lib.hid hz2; have HU := Lib.hid hu; have HS2 := Lib.hid hs2; have HF2 := Lib.hid hf2; have HG := Lib.hid hg
    clear hz2 hu hs2 hf2 hg c0 c1 c2 f0 f1 f2
    simp only [tyV]
    go_wp2_with fail
    have hbx := alloc_new W2 (.cells #[.int .i64 t.kind, .string t.name, .slice a2 t.kids.length n2] 31)
    have HBX := Lib.hid hbx
    have hne2 : W2.heap.size ≠ p := by have := HS2.out.lt; omega
    have HNe2 := Lib.hid hne2
    clear hbx hne2
    go_region_with (first
      | (go_at_call 24; refine (HI2.out k2 _ ?hs ?hk).mono ?_; (case hs => exact SeqAt.drew (HS2.out.below ((Below.refl _ W2).alloc (Nat.le_refl _) _))); (case hk => omega); rintro e W3 ⟨⟨t3, u3, rfl, hg3, hu3⟩, ⟨k3, hk3, hs3⟩, hf3'⟩; have hf3 := MkFr.of_drew hf3'; clear hf3'; obtain ⟨a3, n3, rfl⟩ := hu3.shape; have hbx3 := hf3.2 _ _ HBX.out HNe2.out; obtain ⟨x0, x1, x2⟩ := three_cells hbx3; have hz3 := hf3.2 _ _ ((Below.heap_alloc W2 _ _ hzl2).trans HZ2.out) HNe.out; have hzl3 := (Array.getElem?_eq_some_iff.1 hz3).1; have HZ3 := Lib.hid hz3; have HS3 := Lib.hid hs3; have HF3 := Lib.hid hf3; have HG3 := Lib.hid hg3; have HUt := Lib.hid ((HU.out.mono (ok' := fun k => w.heap.size < k) fun k hk => Nat.lt_of_lt_of_le hzl hk).keep (fun k cs fz _ hh => ((keepT_alloc W2 _).trans (KeepT.of_mk hf3 (HS2.out.below ((Below.refl _ W2).alloc (Nat.le_refl _) _)))) k cs fz hh)); have hu3' : TyIn (fun k => w.heap.size < k) W3 t3 (.slice a3 t3.kids.length n3) := hu3.mono (fun k hk => by have h9 : (W2.alloc (.cells #[.int .i64 t.kind, .string t.name, .slice a2 t.kids.length n2] 31)).heap.size ≤ k := hk; simp at h9; omega); have HU3 := Lib.hid hu3'; clear hz3 hs3 hf3 hu3 hu3' hg3 hbx3; simp only [tyV])
      | (go_at_call 54; refine (fun2_in t t3 _ _ _ _ _ (fun k hk => Nat.lt_of_lt_of_le hzl3 hk) HUt.out HU3.out).mono ?_; rintro e W4 ⟨⟨u4, rfl, hu4⟩, hb4⟩; obtain ⟨a4, n4, rfl⟩ := hu4.shape; have HBT := Lib.hid hb4; have hz4 : W4.heap[w.heap.size]? = some (.cells #[.int .i64 0, .string ⟨#[]⟩, .slice none 0 0] 31 (0, 0)) := (HBT.out.block _ hzl3).trans HZ3.out; obtain ⟨d0, d1, d2⟩ := three_cells hz4; have g0 := Lib.frozen_of_heap hz4 0; have g1 := Lib.frozen_of_heap hz4 1; have g2 := Lib.frozen_of_heap hz4 2; have HZ4 := Lib.hid hz4; have HU4 := Lib.hid hu4; clear hz4 hu4 hb4; simp only [tyV, show (T.fn t t3).kind = 3 from rfl, show (T.fn t t3).name = ⟨#[]⟩ from rfl, show (T.fn t t3).kids.length = 2 from rfl]))
    all_goals go_wp2
    all_goals exact bodyPost_ret (v := .agg #[.int .i64 3, .string ⟨#[]⟩, .slice a4 2 n4]) (by have hc := set3_cells HZ4.out (.int .i64 3) (.string ⟨#[]⟩) (.slice a4 2 n4); simp [results, Tryz.results24, go_sem, hc.1, hc.2.1, hc.2.2]) rfl (made_fn (t := T.fn t t3) (HS3.out.below HBT.out) (by omega) (((H2.out.trans HF2.out).trans ((MkFr.of_below ((Below.refl _ W2).alloc (Nat.le_refl _) _) (Nat.le_trans HS2.out.1.1 (Nat.le_of_lt HS2.out.lt))).trans HF3.out)).trans (MkFr.of_below HBT.out (Nat.le_trans HS3.out.1.1 (Nat.le_of_lt HS3.out.lt)))) hp HZ4.out HU4.out (good_fn HG.out HG3.out (Nat.le_refl _)))
  · go_wp2_with (go_at_call 24; refine (HI.out _ _ H1.out (by omega)).mono ?_)
    rintro e W2 ⟨⟨t, u, rfl, hg, hu⟩, ⟨k2, hk2, hs2⟩, hf2⟩
    obtain ⟨a2, n2, rfl⟩ := hu.shape
    have hz2 := hf2.2 _ _ HZ.out HNe.out
    have hzl2 := (Array.getElem?_eq_some_iff.1 hz2).1
    have HZ2 := Lib.hid hz2; have HU := Lib.hid hu; have HS2 := Lib.hid hs2; have HF2 := Lib.hid hf2; have HG := Lib.hid hg
    clear hz2 hu hs2 hf2 hg c0 c1 c2 f0 f1 f2
    simp only [tyV]
    go_wp2_with fail
    have hbx := alloc_new W2 (.cells #[.int .i64 t.kind, .string t.name, .slice a2 t.kids.length n2] 31)
    have HBX := Lib.hid hbx
    have hne2 : W2.heap.size ≠ p := by have := HS2.out.lt; omega
    have HNe2 := Lib.hid hne2
    clear hbx hne2
    go_region_with (first
      | (go_at_call 24; refine (HI2.out k2 _ ?hs ?hk).mono ?_; (case hs => exact SeqAt.drew (HS2.out.below ((Below.refl _ W2).alloc (Nat.le_refl _) _))); (case hk => omega); rintro e W3 ⟨⟨t3, u3, rfl, hg3, hu3⟩, ⟨k3, hk3, hs3⟩, hf3'⟩; have hf3 := MkFr.of_drew hf3'; clear hf3'; obtain ⟨a3, n3, rfl⟩ := hu3.shape; have hbx3 := hf3.2 _ _ HBX.out HNe2.out; obtain ⟨x0, x1, x2⟩ := three_cells hbx3; have hz3 := hf3.2 _ _ ((Below.heap_alloc W2 _ _ hzl2).trans HZ2.out) HNe.out; have hzl3 := (Array.getElem?_eq_some_iff.1 hz3).1; have HZ3 := Lib.hid hz3; have HS3 := Lib.hid hs3; have HF3 := Lib.hid hf3; have HG3 := Lib.hid hg3; have HUt := Lib.hid ((HU.out.mono (ok' := fun k => w.heap.size < k) fun k hk => Nat.lt_of_lt_of_le hzl hk).keep (fun k cs fz _ hh => ((keepT_alloc W2 _).trans (KeepT.of_mk hf3 (HS2.out.below ((Below.refl _ W2).alloc (Nat.le_refl _) _)))) k cs fz hh)); have hu3' : TyIn (fun k => w.heap.size < k) W3 t3 (.slice a3 t3.kids.length n3) := hu3.mono (fun k hk => by have h9 : (W2.alloc (.cells #[.int .i64 t.kind, .string t.name, .slice a2 t.kids.length n2] 31)).heap.size ≤ k := hk; simp at h9; omega); have HU3 := Lib.hid hu3'; clear hz3 hs3 hf3 hu3 hu3' hg3 hbx3; simp only [tyV])
      | (go_at_call 54; refine (fun2_in t t3 _ _ _ _ _ (fun k hk => Nat.lt_of_lt_of_le hzl3 hk) HUt.out HU3.out).mono ?_; rintro e W4 ⟨⟨u4, rfl, hu4⟩, hb4⟩; obtain ⟨a4, n4, rfl⟩ := hu4.shape; have HBT := Lib.hid hb4; have hz4 : W4.heap[w.heap.size]? = some (.cells #[.int .i64 0, .string ⟨#[]⟩, .slice none 0 0] 31 (0, 0)) := (HBT.out.block _ hzl3).trans HZ3.out; obtain ⟨d0, d1, d2⟩ := three_cells hz4; have g0 := Lib.frozen_of_heap hz4 0; have g1 := Lib.frozen_of_heap hz4 1; have g2 := Lib.frozen_of_heap hz4 2; have HZ4 := Lib.hid hz4; have HU4 := Lib.hid hu4; clear hz4 hu4 hb4; simp only [tyV, show (T.fn t t3).kind = 3 from rfl, show (T.fn t t3).name = ⟨#[]⟩ from rfl, show (T.fn t t3).kids.length = 2 from rfl]))
    all_goals go_wp2
    all_goals exact bodyPost_ret (v := .agg #[.int .i64 3, .string ⟨#[]⟩, .slice a4 2 n4]) (by have hc := set3_cells HZ4.out (.int .i64 3) (.string ⟨#[]⟩) (.slice a4 2 n4); simp [results, Tryz.results24, go_sem, hc.1, hc.2.1, hc.2.2]) rfl (made_fn (t := T.fn t t3) (HS3.out.below HBT.out) (by omega) (((H2.out.trans HF2.out).trans ((MkFr.of_below ((Below.refl _ W2).alloc (Nat.le_refl _) _) (Nat.le_trans HS2.out.1.1 (Nat.le_of_lt HS2.out.lt))).trans HF3.out)).trans (MkFr.of_below HBT.out (Nat.le_trans HS3.out.1.1 (Nat.le_of_lt HS3.out.lt)))) hp HZ4.out HU4.out (good_fn HG.out HG3.out (Nat.le_refl _)))
end Go.Proofs.YtdidgddcgjpokaaGreatDoor
/- Types of depth three, of depth four, made of numbers. -/
namespace Go.Proofs.YtdidgddcgjpokaaGreatDoor
open Go.RowKit

theorem make_n1 (B p : Nat) (a : Option Addr) (n c k : Nat) (w : World) (h : SeqAt B p a n c k w) (hk : k + 4 < 1152921504606846976) (hn : n < 1152921504606846976) :
    Calls Tryz.prog 24 #[.pointer (some ⟨p, 0, none⟩), .int .i64 1] w (MadeN B p a n c k 4 28 w) :=
  make_stepN 1 (by decide) (by decide) 2 14 (by decide) (by decide) B p a n c k w h hk hn (fun k w h hk => make_n0 B p a n c k w h (by omega) hn)
theorem make_n2 (B p : Nat) (a : Option Addr) (n c k : Nat) (w : World) (h : SeqAt B p a n c k w) (hk : k + 8 < 1152921504606846976) (hn : n < 1152921504606846976) :
    Calls Tryz.prog 24 #[.pointer (some ⟨p, 0, none⟩), .int .i64 2] w (MadeN B p a n c k 8 56 w) :=
  make_stepN 2 (by decide) (by decide) 4 28 (by decide) (by decide) B p a n c k w h hk hn (fun k w h hk => make_n1 B p a n c k w h hk hn)
theorem make_n3 (B p : Nat) (a : Option Addr) (n c k : Nat) (w : World) (h : SeqAt B p a n c k w) (hk : k + 16 < 1152921504606846976) (hn : n < 1152921504606846976) :
    Calls Tryz.prog 24 #[.pointer (some ⟨p, 0, none⟩), .int .i64 3] w (MadeN B p a n c k 16 112 w) :=
  make_stepN 3 (by decide) (by decide) 8 56 (by decide) (by decide) B p a n c k w h hk hn (fun k w h hk => make_n2 B p a n c k w h hk hn)
end Go.Proofs.YtdidgddcgjpokaaGreatDoor
/- What the program's Unify is to tell, and what the laws of unification share. -/
namespace Go.Proofs.YtdidgddcgjpokaaGreatDoor
open Go.RowKit Go.Sort Go.Lib
attribute [local go_sem] Oper.semAt_some

/-- The example's two types. -/
def s1 : USet := usetV [⟨#[97]⟩] 1 (by decide) (by decide) (by intro x hx; simp at hx; subst hx; decide) (by decide)
end Go.Proofs.YtdidgddcgjpokaaGreatDoor
/- SchemeFree: what the names come to, as plain data. -/
namespace Go.Proofs.YtdidgddcgjpokaaGreatDoor
open Go.RowKit Go.Sort Go.Lib
attribute [local go_sem] Oper.semAt_some

theorem fv_nodups : ∀ t : T, ∀ bd out : List ByteArray, out.Nodup → (fv bd out t).Nodup := by
  refine T.kidsInd fun t ih bd out ho => ?_
  have hl : ∀ l : List T, (∀ k ∈ l, k ∈ t.kids) → ∀ bd out : List ByteArray, out.Nodup → (fvs bd out l).Nodup := by
    intro l
    induction l with
    | nil => intro _ bd out h; simpa [fvs] using h
    | cons a l ih2 => intro hk bd out h; rw [fvs]; exact ih2 (fun k h => hk k (List.mem_cons_of_mem _ h)) bd _ (ih a (hk a (List.mem_cons_self ..)) bd out h)
  cases t with
  | var n =>
    rw [fv]
    split
    · exact ho
    · rename_i h
      rw [List.nodup_append]
      exact ⟨ho, by simp, fun a ha b hb e => by
        have hb' : b = n := by simpa using hb
        exact h (.inr (by rw [← hb', ← e]; exact ha))⟩
  | con n l => rw [fv]; exact hl l (fun k h => h) bd out ho
  | fn a b => rw [fv]; exact ih b (by simp [T.kids]) bd _ (ih a (by simp [T.kids]) bd out ho)
  | all n a => rw [fv]; exact ih a (by simp [T.kids]) _ out ho
theorem only_if {l : List ByteArray} {m : ByteArray} {c : Bool} (hn : l.Nodup) (h : ∀ x ∈ l, x = m) (hc : c = true ↔ m ∈ l) : l = if c = true then [m] else [] := by
  cases l with
  | nil => rw [if_neg (fun e => nomatch hc.1 e)]
  | cons a l =>
    have ha := h a (List.mem_cons_self ..)
    subst ha
    rw [if_pos (hc.2 (List.mem_cons_self ..))]
    cases l with
    | nil => rfl
    | cons b l =>
      have hb := h b (by simp)
      subst hb
      simp at hn
theorem tsizes_map {f : T → T} : ∀ l : List T, (∀ k ∈ l, tsize (f k) = tsize k) → tsizes (l.map f) = tsizes l
  | [], _ => rfl
  | a :: l, h => by rw [List.map_cons, tsizes, tsizes, h a (List.mem_cons_self ..), tsizes_map l fun k hk => h k (List.mem_cons_of_mem _ hk)]
theorem size_subV {σ : Sg} : ∀ t, (∀ y ∈ vs t, ∃ z, σ y = .var z) → tsize (sub σ t) = tsize t := by
  refine T.kidsInd fun t ih hs => ?_
  cases hv : t.isV with
  | true =>
    rw [isV_var hv] at hs ⊢
    obtain ⟨z, hz⟩ := hs t.name (by simp [vs])
    rw [sub, hz, tsize, tsize]
  | false =>
    obtain ⟨e1, e2, e3, _⟩ := sub_parts σ t hv
    rw [tsize_eq, tsize_eq t, e3, tsizes_map _ fun k hk => ih k hk fun y hy => hs y ((vs_kids hv).2 ⟨k, hk, hy⟩)]
theorem ty_prs_in : ∀ (F G : List ByteArray) (y : ByteArray), F.length = G.length → y ∈ F → ∃ z ∈ G, ty y (prs F G) = .var z
  | f :: F, g :: G, y, hl, hy => by
    rw [prs, ty_cons]
    by_cases e : f = y
    · rw [if_pos e]; exact ⟨g, List.mem_cons_self .., rfl⟩
    · rw [if_neg e]
      obtain ⟨z, hz, h⟩ := ty_prs_in F G y (by simpa using hl) ((List.mem_cons.1 hy).resolve_left fun q => e q.symm)
      exact ⟨z, List.mem_cons_of_mem _ hz, h⟩
  | [], _, _, _, hy => nomatch hy
  | _ :: _, [], _, hl, _ => by simp at hl
theorem ty_prs_out : ∀ (F G : List ByteArray) (y : ByteArray), y ∉ F → ty y (prs F G) = .var y
  | f :: F, g :: G, y, hy => by
    rw [prs, ty_cons, if_neg fun e : f = y => hy (by rw [← e]; exact List.mem_cons_self ..)]
    exact ty_prs_out F G y fun h => hy (List.mem_cons_of_mem _ h)
  | [], _, y, _ => by rw [prs]; exact ty_nil y; simp
  | _ :: _, [], y, _ => by rw [prs]; exact ty_nil y; simp
theorem sf_nm : ∀ t, T.Good t → Nm t := by
  refine T.kidsInd fun t ih h => .mk t ?_ fun k hk => ih k hk (good_kid h hk)
  cases t with
  | var n => rw [T.Good] at h; have := (vname_pos h).2; simp only [T.name]; omega
  | con n l => rw [T.Good] at h; have := (cname_pos h.1).2; simp only [T.name]; omega
  | fn a b => exact (by decide : (0 : Nat) ≤ 1000)
  | all n a => rw [T.Good] at h; exact h.elim
end Go.Proofs.YtdidgddcgjpokaaGreatDoor
/- SchemeFresh: plain facts: numbers' names, and names that are put back. -/
namespace Go.Proofs.YtdidgddcgjpokaaGreatDoor
open Go.RowKit Go.Sort Go.Lib
attribute [local go_sem] Oper.semAt_some

/-- The variables of a type and of a context, made of numbers. -/
theorem fvs_nodups : ∀ (l : List T) (bd out : List ByteArray), out.Nodup → (fvs bd out l).Nodup
  | [], _, _, h => by simpa [fvs] using h
  | a :: l, bd, out, h => by rw [fvs]; exact fvs_nodups l bd _ (fv_nodups a bd out h)
theorem tsizes_le : ∀ (l : List T) (m : Nat), (∀ u ∈ l, tsize u ≤ m) → tsizes l ≤ l.length * m
  | [], m, _ => by simp [tsizes]
  | u :: l, m, h => by
    rw [tsizes, List.length_cons, Nat.succ_mul]
    have h1 := h u (List.mem_cons_self ..)
    have h2 := tsizes_le l m fun k hk => h k (List.mem_cons_of_mem _ hk)
    omega
end Go.Proofs.YtdidgddcgjpokaaGreatDoor
/- Predicates, rows of them, that are made of numbers: of whatever depth. (Made by a program out of SbMkPr.) -/
namespace Go.Proofs.YtdidgddcgjpokaaGreatDoor
open Go.RowKit
attribute [local go_sem] Oper.semAt_some
attribute [local go_sem ↓] Go.wp_at_zero Go.wp_at_succ

def MadePG (m D B p : Nat) (a : Option Addr) (n c k : Nat) (w : World) (e : Ending) (w' : World) : Prop :=
  (∃ q u, e = .returned (prV q u) ∧ (T.Good q.2 ∧ Fits q.2 ∧ (T.text q.2).length + 10 ≤ D) ∧ TysAt w' u q.2.kids) ∧ (∃ k', k' ≤ k + 1 + m ∧ SeqAt B p a n c k' w') ∧ MkFr B p w w'

theorem pred_finG {m D B p : Nat} {a : Option Addr} {n c k k2 : Nat} {w W : World} {O1 O2 : Obj} {q : Pr} {v x y z u x0 y0 z0 u0 : Value} (hs : SeqAt B p a n c k2 W) (hk2 : k2 + 1 ≤ k + 1 + m) (hfr : MkFr B p ((w.alloc O1).alloc O2) W) (hp : p < w.heap.size)
    (h0 : W.heap[w.heap.size]? = some (.cells #[x0, y0, z0, u0] 55 (0, 0))) (hu : TysAt W v q.2.kids) (hg : (T.Good q.2 ∧ Fits q.2 ∧ (T.text q.2).length + 10 ≤ D)) :
    MadePG m D B p a n c k w (.returned (prV q v)) ((((W.setCell ⟨w.heap.size, 0, none⟩ x).setCell ⟨w.heap.size, 1, none⟩ y).setCell ⟨w.heap.size, 2, none⟩ z).setCell ⟨w.heap.size, 3, none⟩ u) := by
  have he : Else w.heap.size W ((((W.setCell ⟨w.heap.size, 0, none⟩ x).setCell ⟨w.heap.size, 1, none⟩ y).setCell ⟨w.heap.size, 2, none⟩ z).setCell ⟨w.heap.size, 3, none⟩ u) := (((Else.set _ _ _ _).trans (Else.set _ _ _ _)).trans (Else.set _ _ _ _)).trans (Else.set _ _ _ _)
  obtain ⟨e1, e2⟩ := else_fin rfl hs ((MkFr.of_below ((Below.refl _ _).alloc (Nat.le_refl _) O2) (by have := hs.1.1; simp; omega)).trans hfr) hp he
  exact ⟨⟨q, v, rfl, hg, hu.keep (KeepT.else he h0 (by decide))⟩, ⟨k2, by omega, e1⟩, e2⟩
set_option maxRecDepth 100000 in
set_option maxHeartbeats 4000000 in
theorem make_predG (dp m D : Nat) (B p : Nat) (a : Option Addr) (n c k : Nat) (w : World) (h : SeqAt B p a n c k w) (hk : k < 900000000000000000) (hT : ∀ (k : Nat) (W : World), SeqAt B p a n c k W → k < 1000000000000000000 → Calls Tryz.prog 24 #[.pointer (some ⟨p, 0, none⟩), .int .i64 (dp : Int)] W (MadeN B p a n c k m D W)) (hn : n < 1152921504606846976) :
    Calls Tryz.prog 31 #[.pointer (some ⟨p, 0, none⟩), .int .i64 (dp : Int)] w (MadePG m D B p a n c k w) := by
  have hp := h.lt
  have HN := Lib.hid (fun o1 o2 => next_any B p a n c k 4 ((w.alloc o1).alloc o2) (h.below (((Below.refl _ w).alloc (Nat.le_refl _) o1).alloc (show w.heap.size ≤ (w.alloc o1).heap.size by simp) o2)) (by decide) (by decide) (by omega) hn)
  have HT := Lib.hid (fun W (hs : SeqAt B p a n c (k + 1) W) => hT (k + 1) W hs (by omega))
  have HNe := Lib.hid (show w.heap.size ≠ p by omega)
  have HNe1 := Lib.hid (show w.heap.size + 1 ≠ p by omega)
  have HBp := Lib.hid h.1.1
  clear h hT
  go_enter Tryz.func31, Tryz.ntmps31
  go_wp2_with (go_at_call 30; refine (HN.out _ _).mono ?_)
  rintro e W1 ⟨⟨r, hr, rfl⟩, h1, h2⟩
  have hz := h2.2 _ _ ((Below.heap_alloc _ _ _ (by simp)).trans (alloc_new w _)) HNe.out
  have hs := h2.2 _ _ (show ((w.alloc _).alloc _).heap[w.heap.size + 1]? = _ from by rw [show w.heap.size + 1 = (w.alloc (.cells #[.string ⟨#[]⟩, .int .i64 0, .string ⟨#[]⟩, .slice none 0 0] 55)).heap.size from by simp]; exact alloc_new _ _) HNe1.out
  obtain ⟨s0, s1, s2, s3⟩ := four_strs hs
  have hzl := (Array.getElem?_eq_some_iff.1 hz).1
  have HZ := Lib.hid hz; have H1 := Lib.hid h1; have H2 := Lib.hid h2
  clear hz hs h1 h2
  obtain ⟨z, hz⟩ : ∃ z : Int, (r : Int) = z := ⟨_, rfl⟩
  rw [hz]
  have h4 : z = 0 ∨ z = 1 ∨ z = 2 ∨ z = 3 := by omega
  clear hz hr
  rcases h4 with rfl | rfl | rfl | rfl
  · go_wp2_with (go_at_call 24; refine (HT.out _ H1.out).mono ?_)
    rintro e W2 ⟨⟨t, u, rfl, hg, hu⟩, ⟨k2, hk2, hs2⟩, hf2⟩
    obtain ⟨a2, n2, rfl⟩ := hu.shape
    have hz2 := hf2.2 _ _ HZ.out HNe.out
    obtain ⟨d0, d1, d2, d3⟩ := four_cells hz2
    have g0 := Lib.frozen_of_heap hz2 0
    have g1 := Lib.frozen_of_heap hz2 1
    have g2 := Lib.frozen_of_heap hz2 2
    have g3 := Lib.frozen_of_heap hz2 3
    have HZ2 := Lib.hid hz2; have HU := Lib.hid hu; have HS2 := Lib.hid hs2; have HF2 := Lib.hid hf2; have HG := Lib.hid hg
    clear hz2 hu hs2 hf2 hg s0 s1 s2 s3
    simp only [tyV]
    go_wp2
    exact bodyPost_ret (v := prV (⟨#[69, 113]⟩, t) (.slice a2 t.kids.length n2)) (by have hc := set4_cells HZ2.out (.string ⟨#[69, 113]⟩) (.int .i64 t.kind) (.string t.name) (.slice a2 t.kids.length n2); simp [results, Tryz.results31, go_sem, prV, hc.1, hc.2.1, hc.2.2.1, hc.2.2.2]) rfl (pred_finG (q := (⟨#[69, 113]⟩, t)) HS2.out hk2 (H2.out.trans HF2.out) hp HZ2.out HU.out.tys HG.out)
  · go_wp2_with (go_at_call 24; refine (HT.out _ H1.out).mono ?_)
    rintro e W2 ⟨⟨t, u, rfl, hg, hu⟩, ⟨k2, hk2, hs2⟩, hf2⟩
    obtain ⟨a2, n2, rfl⟩ := hu.shape
    have hz2 := hf2.2 _ _ HZ.out HNe.out
    obtain ⟨d0, d1, d2, d3⟩ := four_cells hz2
    have g0 := Lib.frozen_of_heap hz2 0
    have g1 := Lib.frozen_of_heap hz2 1
    have g2 := Lib.frozen_of_heap hz2 2
    have g3 := Lib.frozen_of_heap hz2 3
    have HZ2 := Lib.hid hz2; have HU := Lib.hid hu; have HS2 := Lib.hid hs2; have HF2 := Lib.hid hf2; have HG := Lib.hid hg
    clear hz2 hu hs2 hf2 hg s0 s1 s2 s3
    simp only [tyV]
    go_wp2
    exact bodyPost_ret (v := prV (⟨#[79, 114, 100]⟩, t) (.slice a2 t.kids.length n2)) (by have hc := set4_cells HZ2.out (.string ⟨#[79, 114, 100]⟩) (.int .i64 t.kind) (.string t.name) (.slice a2 t.kids.length n2); simp [results, Tryz.results31, go_sem, prV, hc.1, hc.2.1, hc.2.2.1, hc.2.2.2]) rfl (pred_finG (q := (⟨#[79, 114, 100]⟩, t)) HS2.out hk2 (H2.out.trans HF2.out) hp HZ2.out HU.out.tys HG.out)
  · go_wp2_with (go_at_call 24; refine (HT.out _ H1.out).mono ?_)
    rintro e W2 ⟨⟨t, u, rfl, hg, hu⟩, ⟨k2, hk2, hs2⟩, hf2⟩
    obtain ⟨a2, n2, rfl⟩ := hu.shape
    have hz2 := hf2.2 _ _ HZ.out HNe.out
    obtain ⟨d0, d1, d2, d3⟩ := four_cells hz2
    have g0 := Lib.frozen_of_heap hz2 0
    have g1 := Lib.frozen_of_heap hz2 1
    have g2 := Lib.frozen_of_heap hz2 2
    have g3 := Lib.frozen_of_heap hz2 3
    have HZ2 := Lib.hid hz2; have HU := Lib.hid hu; have HS2 := Lib.hid hs2; have HF2 := Lib.hid hf2; have HG := Lib.hid hg
    clear hz2 hu hs2 hf2 hg s0 s1 s2 s3
    simp only [tyV]
    go_wp2
    exact bodyPost_ret (v := prV (⟨#[83, 104, 111, 119]⟩, t) (.slice a2 t.kids.length n2)) (by have hc := set4_cells HZ2.out (.string ⟨#[83, 104, 111, 119]⟩) (.int .i64 t.kind) (.string t.name) (.slice a2 t.kids.length n2); simp [results, Tryz.results31, go_sem, prV, hc.1, hc.2.1, hc.2.2.1, hc.2.2.2]) rfl (pred_finG (q := (⟨#[83, 104, 111, 119]⟩, t)) HS2.out hk2 (H2.out.trans HF2.out) hp HZ2.out HU.out.tys HG.out)
  · go_wp2_with (go_at_call 24; refine (HT.out _ H1.out).mono ?_)
    rintro e W2 ⟨⟨t, u, rfl, hg, hu⟩, ⟨k2, hk2, hs2⟩, hf2⟩
    obtain ⟨a2, n2, rfl⟩ := hu.shape
    have hz2 := hf2.2 _ _ HZ.out HNe.out
    obtain ⟨d0, d1, d2, d3⟩ := four_cells hz2
    have g0 := Lib.frozen_of_heap hz2 0
    have g1 := Lib.frozen_of_heap hz2 1
    have g2 := Lib.frozen_of_heap hz2 2
    have g3 := Lib.frozen_of_heap hz2 3
    have HZ2 := Lib.hid hz2; have HU := Lib.hid hu; have HS2 := Lib.hid hs2; have HF2 := Lib.hid hf2; have HG := Lib.hid hg
    clear hz2 hu hs2 hf2 hg s0 s1 s2 s3
    simp only [tyV]
    go_wp2
    exact bodyPost_ret (v := prV (⟨#[78, 117, 109]⟩, t) (.slice a2 t.kids.length n2)) (by have hc := set4_cells HZ2.out (.string ⟨#[78, 117, 109]⟩) (.int .i64 t.kind) (.string t.name) (.slice a2 t.kids.length n2); simp [results, Tryz.results31, go_sem, prV, hc.1, hc.2.1, hc.2.2.1, hc.2.2.2]) rfl (pred_finG (q := (⟨#[78, 117, 109]⟩, t)) HS2.out hk2 (H2.out.trans HF2.out) hp HZ2.out HU.out.tys HG.out)

def MadePsG (most m D B p : Nat) (a : Option Addr) (n c k : Nat) (w : World) (e : Ending) (w' : World) : Prop :=
  (∃ l v, e = .returned v ∧ (l.length ≤ most ∧ ∀ q ∈ l, (T.Good q.2 ∧ Fits q.2 ∧ (T.text q.2).length + 10 ≤ D)) ∧ PrsAt w' v l) ∧ (∃ k', k' ≤ k + 1 + (1 + m) * most ∧ SeqAt B p a n c k' w') ∧ MkFr B p w w'

set_option maxRecDepth 100000 in
set_option maxHeartbeats 4000000 in
theorem make_predsG (most dp m D : Nat) (hmost : most ≤ 1000) (hm1000 : m ≤ 1000) (B p : Nat) (a : Option Addr) (n c k : Nat) (w : World) (h : SeqAt B p a n c k w) (hk : k < 100000000000000000) (hT : ∀ (k : Nat) (W : World), SeqAt B p a n c k W → k < 1000000000000000000 → Calls Tryz.prog 24 #[.pointer (some ⟨p, 0, none⟩), .int .i64 (dp : Int)] W (MadeN B p a n c k m D W)) (hn : n < 1152921504606846976) :
    Calls Tryz.prog 7 #[.pointer (some ⟨p, 0, none⟩), .int .i64 (most : Int), .int .i64 (dp : Int)] w (MadePsG most m D B p a n c k w) := by
  have hp := h.lt
  obtain ⟨i0, hi, hz0, hz1, hz2⟩ := info_parts Tryz.infoPred
  have HN := Lib.hid (next_any B p a n c k (most + 1) w h (by omega) (by omega) (by omega) hn)
  have HB := Lib.hid h.1.1
  have HT := Lib.hid hT
  have hmI : wrap64 ((most : Int) + 1) = (most : Int) + 1 := by unfold wrap64; omega
  have hmI2 : IntKind.i64.wrap ((most : Int) + 1) = (most : Int) + 1 := by rw [IntKind.wrap_i64]; omega
  have hmI3 : (((most + 1 : Nat)) : Int) = (most : Int) + 1 := by omega
  rw [hmI3] at HN
  clear h hT
  go_enter Tryz.func7, Tryz.ntmps7
  go_wp2_with (go_at_call 30; refine HN.out.mono ?_)
  rintro e W1 ⟨⟨r, hr, rfl⟩, h1, h2⟩
  have H1 := Lib.hid h1; have H2 := Lib.hid h2
  clear h1 h2
  go_wp2_with fail
  go_loopw [7, 8] (fun vl vi wr => ∃ (q : List (Pr × Value)) (i k' : Nat), vi = .int .i64 i ∧ i + q.length ≤ most ∧ Hid (wr.ownsRow w.heap.size 55 4 vl q.length (prRow q)) ∧ Hid (∀ x ∈ q, TysAt wr x.2 x.1.2.kids) ∧ Hid (∀ x ∈ q, (T.Good x.1.2 ∧ Fits x.1.2 ∧ (T.text x.1.2).length + 10 ≤ D)) ∧ Hid (k' ≤ k + 1 + (1 + m) * q.length ∧ SeqAt B p a n c k' wr) ∧ Hid (MkFr B p w wr)) (fun _ vi _ => (intOf vi).toNat)
  case atStart => exact ⟨[], r, k + 1, rfl, by simp; omega, Lib.hid (World.ownsRow_nil _ _ _ _), Lib.hid (fun x hx => by cases hx), Lib.hid (fun x hx => by cases hx), Lib.hid ⟨by simp, H1.out⟩, Lib.hid H2.out⟩
  case round =>
    obtain ⟨q, i, k', rfl, hq3, hrow, hty, hgd, hsq, hfr⟩ := hrel
    by_cases hpos : 0 < i
    · have hposI : (0 : Int) < (i : Int) := by omega
      go_wp2_with (go_at_call 31; refine (make_predG dp m D B p a n c k' _ hsq.out.2 (by have h1 := hsq.out.1; have h2 := Nat.mul_le_mul_left (1 + m) (show q.length ≤ 1000 by omega); omega) HT.out hn).mono ?_)
      rintro e W2 ⟨⟨x, u, rfl, hg, hu⟩, ⟨k2, hk2, hs2⟩, hf2⟩
      obtain ⟨a2, n2, rfl⟩ := hu.shape
      have hrow2 := own_keep hrow.out hf2.2 hp
      have HF2 := Lib.hid (hfr.out.trans hf2)
      have HS2 := Lib.hid hs2; have HU := Lib.hid hu; have HG := Lib.hid hg; have HR2 := Lib.hid hrow2
      have HTY2 := Lib.hid (fun y hy => (hty.out y hy).keep (KeepT.of_mk hf2 hsq.out.2))
      have HKq := Lib.hid hk2
      clear hrow2 hs2 hu hg hf2 hk2
      simp only [prV]
      go_wp2_with (at_builtin; refine wpList_append_own _ rfl _ _ 28 rfl w.heap.size 55 i0 (.agg #[.string ⟨#[]⟩, .int .i64 0, .string ⟨#[]⟩, .slice none 0 0]) 4 64 Tryz.underlying28 hi hz0 hz1 hz2 rfl (by decide) _ _ _ rfl (HR2.out.alloc _) ⟨W2.heap.size, 0, none⟩ 1 1 (prCells (x, .slice a2 x.2.kids.length n2)) rfl rfl (cell_new4 _ _ _ _ _ _) (by simp [prCells, Value.oneCell']) ?c3 ?c4 ?c5 ?_)
      case c3 => unfold maxLen; omega
      case c4 => omega
      case c5 => have := HF2.out.1.size; simp; omega
      intro v' W3 hown3 hgrow _
      have hkt : KeepT W2 W3 := (keepT_alloc W2 _).trans (KeepT.grown hgrow (HR2.out.alloc _) (by decide))
      have hsz : w.heap.size ≤ W2.heap.size := HF2.out.1.size
      have hBw : B ≤ w.heap.size := by have := HB.out; omega
      have hbelB : Below B W2 W3 := ((Below.refl B W2).alloc (Nat.le_trans hBw hsz) _).grown hgrow (by simp; omega) (fun j hj => Nat.le_trans hBw (HR2.out.lt j hj).1)
      have hblk : ∀ j o, W2.heap[j]? = some o → j < w.heap.size → W3.heap[j]? = some o := fun j o hj hlt =>
        (hgrow.block j (by simp; omega) (fun e => by have := (HR2.out.lt j e.symm).1; omega)).trans ((Below.heap_alloc W2 _ j (by omega)).trans hj)
      have HS3 := Lib.hid (show SeqAt B p a n c k2 W3 from ⟨⟨HB.out, hblk p _ HS2.out.1.2 hp⟩, HS2.out.2.keep hbelB⟩)
      have HF3 := Lib.hid (show MkFr B p w W3 from ⟨HF2.out.1.trans hbelB, fun j o hj hjp => hblk j o (HF2.out.2 j o hj hjp) (Array.getElem?_eq_some_iff.1 hj).1⟩)
      have HT3 := Lib.hid (fun y hy => (HTY2.out y hy).keep hkt)
      have HX3 := Lib.hid (HU.out.keep hkt)
      have HO3 := Lib.hid hown3
      clear hkt hbelB hblk hown3 hgrow
      go_wp2
      go_roundw
      case rel =>
        refine ⟨q ++ [(x, .slice a2 x.2.kids.length n2)], i - 1, k2, congrArg (Value.int .i64) (by omega), by simp; omega, Lib.hid ?_, Lib.hid ?_, Lib.hid ?_, Lib.hid ⟨?_, HS3.out⟩, HF3⟩
        · rw [prRow_snoc, List.length_append]; exact HO3.out
        · intro y hy
          rcases List.mem_append.1 hy with hy | hy
          · exact HT3.out y hy
          · obtain rfl := List.mem_singleton.1 hy
            exact HX3.out
        · intro y hy
          rcases List.mem_append.1 hy with hy | hy
          · exact hgd.out y hy
          · obtain rfl := List.mem_singleton.1 hy
            exact HG.out
        · have h1 := HKq.out; have h2 := hsq.out.1
          rw [List.length_append, List.length_singleton, Nat.mul_add, Nat.mul_one]; omega
      case measure => simp [intOf]; omega
    · obtain rfl : i = 0 := by omega
      obtain ⟨va, vc, rfl⟩ := row_val hrow.out
      go_wp2
      go_ret
      have h2 := hsq.out.1
      refine ⟨⟨q.map (·.1), .slice va q.length vc, rfl, ⟨by simp; omega, fun y hy => ?_⟩, prs_of_row hrow.out hty.out⟩, ⟨k', Nat.le_trans h2 (Nat.add_le_add_left (Nat.mul_le_mul_left (1 + m) (by omega)) _), hsq.out.2⟩, hfr.out⟩
      obtain ⟨z, hz, rfl⟩ := List.mem_map.1 hy
      exact hgd.out z hz
end Go.Proofs.YtdidgddcgjpokaaGreatDoor
/- The document's copy of a row of predicates. -/
namespace Go.Proofs.YtdidgddcgjpokaaGreatDoor
open Go.RowKit Go.Sort Go.Lib
attribute [local go_sem] Oper.semAt_some

set_option maxRecDepth 100000 in
set_option maxHeartbeats 4000000 in
theorem rPreds_any (g o cap : Nat) (l : List PR) (w : World) (hl : l.length ≤ 1000) (hg : g < w.heap.size)
    (hcell : ∀ i, i < l.length → w.cell? ⟨g, o + i * 4, none⟩ = some (.string (l.getD i noP).n) ∧ w.cell? ⟨g, o + i * 4 + 1, none⟩ = some (.int .i64 (l.getD i noP).t.kind) ∧ w.cell? ⟨g, o + i * 4 + 2, none⟩ = some (.string (l.getD i noP).t.name) ∧ w.cell? ⟨g, o + i * 4 + 3, none⟩ = some (.slice (l.getD i noP).a (l.getD i noP).t.kids.length (l.getD i noP).c)) :
    Calls Tryz.prog 48 #[.slice (some ⟨g, o, none⟩) l.length cap] w fun e w' => (∃ v, e = .returned v ∧ w'.ownsRow w.heap.size 55 4 v l.length (cellsP l)) ∧ Below w.heap.size w w' := by
  obtain ⟨i0, hi, hz0, hz1, hz2⟩ := info_parts Tryz.infoPred
  have hmk : ∀ W : World, (Instr.makeSlice 28 (.int .i64 0) (.int .i64 (l.length : Int))).run Tryz.prog W = .ok (.slice (some ⟨W.heap.size, 0, none⟩) 0 l.length) (W.alloc (.cells (madeCells #[.string ⟨#[]⟩, .int .i64 0, .string ⟨#[]⟩, .slice none 0 0] (l.length * 4)) 55)) := fun W => by
    have hr := run_make (P := Tryz.prog) W 28 55 i0 _ Tryz.underlying28 hi hz0 .i64 .i64 0 l.length (Int.le_refl _) (by omega) (by rw [hz2]; omega) (by omega)
    simp only [Int.toNat_natCast, hz1] at hr
    exact hr
  have HO0 := Lib.hid (show (w.alloc (.cells (madeCells #[.string ⟨#[]⟩, .int .i64 0, .string ⟨#[]⟩, .slice none 0 0] (l.length * 4)) 55)).ownsRow w.heap.size 55 4 (.slice (some ⟨w.heap.size, 0, none⟩) 0 l.length) 0 [] from World.ownsRow_made (base := w.heap.size) (e := 55) (size := 4) w _ l.length (Nat.le_refl _) (by unfold maxLen; omega) (by rw [size_madeCells]))
  have HB0 := Lib.hid ((Below.refl w.heap.size w).alloc (Nat.le_refl _) (.cells (madeCells #[.string ⟨#[]⟩, .int .i64 0, .string ⟨#[]⟩, .slice none 0 0] (l.length * 4)) 55))
  have HCell := Lib.hid hcell
  clear hcell
  go_enter Tryz.func48, Tryz.ntmps48
  go_wp2_with fail
  go_loopw [3, 4] (fun vl vi wr => ∃ i : Nat, i ≤ l.length ∧ vi = .int .i64 i ∧ Hid (wr.ownsRow w.heap.size 55 4 vl i (cellsP (l.take i))) ∧ Hid (Below w.heap.size w wr)) (fun _ vi _ => l.length - (intOf vi).toNat)
  case atStart => exact ⟨0, Nat.zero_le _, rfl, HO0, HB0⟩
  case round =>
    obtain ⟨i, hi', rfl, hO, hB⟩ := hrel
    obtain ⟨va, vc, rfl⟩ := row_val hO.out
    by_cases hlt : i < l.length
    · have hltI : (i : Int) < (l.length : Int) := by omega
      obtain ⟨x0, x1, x2, x3⟩ := HCell.out i hlt
      have c0 := (hB.out.cell (p := ⟨g, o + i * 4, none⟩) hg).trans x0
      have c1 := (hB.out.cell (p := ⟨g, o + i * 4 + 1, none⟩) hg).trans x1
      have c2 := (hB.out.cell (p := ⟨g, o + i * 4 + 2, none⟩) hg).trans x2
      have c3 := (hB.out.cell (p := ⟨g, o + i * 4 + 3, none⟩) hg).trans x3
      have HT := Lib.hid (show cellsP (l.take (i + 1)) = cellsP (l.take i) ++ encP (l.getD i noP) by
        rw [List.take_succ_eq_append_getElem hlt, cellsP_snoc, show l.getD i noP = l[i] by simp [List.getD, hlt]])
      clear x0 x1 x2 x3
      generalize l.getD i noP = x at *
      have hz := hB.out.size
      go_wp2_with (at_builtin; refine wpList_append_own _ rfl _ _ 28 rfl w.heap.size 55 i0 (.agg #[.string ⟨#[]⟩, .int .i64 0, .string ⟨#[]⟩, .slice none 0 0]) 4 64 Tryz.underlying28 hi hz0 hz1 hz2 rfl (by decide) _ _ _ rfl (hO.out.alloc _) ⟨wr.heap.size, 0, none⟩ 1 1 (encP x) rfl rfl (cell_new4 _ _ _ _ _ _) (by simp [encP, Value.oneCell']) ?c3 ?c4 ?c5 ?_)
      case c3 => unfold maxLen; omega
      case c4 => omega
      case c5 => simp; omega
      intro v' W3 hown3 hgrow _
      have hb3 : Below w.heap.size w W3 := (hB.out.alloc hz _).grown hgrow (by simp; omega) (fun j hj => (hO.out.lt j hj).1)
      have HO3 := Lib.hid hown3; have HB3 := Lib.hid hb3
      clear hown3 hgrow hb3
      go_wp2
      go_roundw
      case rel => exact ⟨i + 1, by omega, by go_num, Lib.hid (by rw [HT.out]; exact HO3.out), HB3⟩
      case measure => simp [intOf]; omega
    · obtain rfl : i = l.length := by omega
      have HE := Lib.hid (And.intro hO.out hB.out)
      clear hO hB
      go_wp2
      go_ret
      exact ⟨⟨_, rfl, by have := HE.out.1; rwa [List.take_length] at this⟩, HE.out.2⟩
end Go.Proofs.YtdidgddcgjpokaaGreatDoor
/- SchemeSorts: rows of predicates that are read. -/
namespace Go.Proofs.YtdidgddcgjpokaaGreatDoor
open Go.RowKit Go.Sort Go.Lib
attribute [local go_sem] Oper.semAt_some

/-- Block g holds the predicates ls, to be read. -/
def RowF (g : Nat) (ls : List PR) (V : World) : Prop := ∃ cs fz, V.heap[g]? = some (.cells cs 55 fz) ∧ ∀ i, i < ls.length →
    cs[i * 4]? = some (.string (ls.getD i noP).n) ∧ cs[i * 4 + 1]? = some (.int .i64 (ls.getD i noP).t.kind) ∧ cs[i * 4 + 2]? = some (.string (ls.getD i noP).t.name) ∧ cs[i * 4 + 3]? = some (.slice (ls.getD i noP).a (ls.getD i noP).t.kids.length (ls.getD i noP).c)
theorem RowF.lt {g : Nat} {ls : List PR} {V : World} (h : RowF g ls V) : g < V.heap.size := by obtain ⟨_, _, h, _⟩ := h; exact (Array.getElem?_eq_some_iff.1 h).1
theorem RowF.below {g : Nat} {ls : List PR} {V Y : World} (h : RowF g ls V) (hb : Below V.heap.size V Y) : RowF g ls Y := by
  have hl := h.lt
  obtain ⟨cs, fz, h1, h2⟩ := h; exact ⟨cs, fz, (hb.block g hl).trans h1, h2⟩
theorem RowF.cells {g : Nat} {ls : List PR} {V : World} (h : RowF g ls V) {i : Nat} (hi : i < ls.length) :
    V.cell? ⟨g, i * 4, none⟩ = some (.string (ls.getD i noP).n) ∧ V.cell? ⟨g, i * 4 + 1, none⟩ = some (.int .i64 (ls.getD i noP).t.kind) ∧ V.cell? ⟨g, i * 4 + 2, none⟩ = some (.string (ls.getD i noP).t.name) ∧ V.cell? ⟨g, i * 4 + 3, none⟩ = some (.slice (ls.getD i noP).a (ls.getD i noP).t.kids.length (ls.getD i noP).c) := by
  obtain ⟨cs, fz, h1, h2⟩ := h
  rw [Lib.cell_of_heap h1, Lib.cell_of_heap h1, Lib.cell_of_heap h1, Lib.cell_of_heap h1]
  exact h2 i hi
/-- v is a row of the predicates ls. -/
def PV (ls : List PR) (v : Value) (V : World) : Prop := Typ ls V ∧ ((ls = [] ∧ ∃ a c, v = .slice a 0 c) ∨ ∃ g cap, v = .slice (some ⟨g, 0, none⟩) ls.length cap ∧ ls.length ≤ cap ∧ RowF g ls V)
theorem PV.below {ls : List PR} {v : Value} {V Y : World} (h : PV ls v V) (hb : Below V.heap.size V Y) : PV ls v Y :=
  ⟨h.1.keep (KeepT.of_below hb), h.2.imp id fun ⟨g, cap, e, hc, hr⟩ => ⟨g, cap, e, hc, hr.below hb⟩⟩
theorem PV.row {ls : List PR} {a : Option Addr} {c : Nat} {V : World} (h : PV ls (.slice a ls.length c) V) (h0 : 0 < ls.length) : ∃ g, a = some ⟨g, 0, none⟩ ∧ ls.length ≤ c ∧ RowF g ls V := by
  rcases h.2 with ⟨rfl, _⟩ | ⟨g, cap, e, hc, hr⟩
  · simp at h0
  · cases e; exact ⟨g, rfl, hc, hr⟩
theorem PV.of_prs {w : World} {v : Value} {l : List Pr} (h : PrsAt w v l) : ∃ ls : List PR, ls.map prOf = l ∧ PV ls v w := by
  rcases h with ⟨rfl, a, c, rfl⟩ | ⟨g, cap, cs, fz, u, rfl, h1, h2, h3⟩
  · exact ⟨[], rfl, (fun x hx => nomatch hx), .inl ⟨rfl, a, c, rfl⟩⟩
  · have key : ∀ i : Fin l.length, ∃ x : PR, prOf x = l[i] ∧ u i = .slice x.a x.t.kids.length x.c := fun i => by
      obtain ⟨a, c, e⟩ := (h3 i i.2).2.shape
      exact ⟨⟨l[i].1, l[i].2, a, c⟩, rfl, e⟩
    obtain ⟨f, hf⟩ := Classical.axiomOfChoice key
    have hlen : (List.ofFn f).length = l.length := List.length_ofFn
    have hget : ∀ i (hi : i < l.length), (List.ofFn f).getD i noP = f ⟨i, hi⟩ := fun i hi => by simp [List.getD, hi]
    refine ⟨List.ofFn f, ?_, fun x hx => ?_, .inr ⟨g, cap, by rw [hlen], by rw [hlen]; exact h2, cs, fz, h1, fun i hi => ?_⟩⟩
    · apply List.ext_getElem
      · simp
      · intro i h1 h2; simpa using (hf ⟨i, h2⟩).1
    · obtain ⟨i, hi, rfl⟩ := List.mem_iff_getElem.1 hx
      have hi' : i < l.length := by simpa using hi
      obtain ⟨e1, e2⟩ := hf ⟨i, hi'⟩
      have := (h3 i hi').2
      rw [List.getElem_ofFn, ← e2]
      rwa [show l[i].2 = (f ⟨i, hi'⟩).t from by have := congrArg Prod.snd e1; exact this.symm] at this
    · have hi' : i < l.length := by rw [hlen] at hi; exact hi
      rw [hget i hi']
      obtain ⟨e1, e2⟩ := hf ⟨i, hi'⟩
      have a1 : l[i].1 = (f ⟨i, hi'⟩).n := (congrArg Prod.fst e1).symm
      have a2 : l[i].2 = (f ⟨i, hi'⟩).t := (congrArg Prod.snd e1).symm
      have := (h3 i hi').1
      rw [a1, a2] at this
      exact ⟨this.1, this.2.1, this.2.2.1, this.2.2.2.trans (congrArg some e2)⟩
/-- Two rows in order that hold the same predicates are one. -/
theorem strict_unique : ∀ (l m : List PR), l.Pairwise (fun x y => cmpR x y < 0) → m.Pairwise (fun x y => cmpR x y < 0) → (∀ q, q ∈ l.map prOf ↔ q ∈ m.map prOf) → l.map prOf = m.map prOf
  | [], [], _, _, _ => rfl
  | [], y :: m, _, _, h => nomatch (h (prOf y)).2 (by simp)
  | x :: l, [], _, _, h => nomatch (h (prOf x)).1 (by simp)
  | x :: l, y :: m, hl, hm, h => by
    obtain ⟨hx, hl'⟩ := List.pairwise_cons.1 hl
    obtain ⟨hy, hm'⟩ := List.pairwise_cons.1 hm
    have pc : ∀ {a b c d : PR}, prOf a = prOf c → prOf b = prOf d → cmpR a b = cmpR c d := fun {a b c d} e1 e2 => by
      have n1 : a.n = c.n := congrArg Prod.fst e1
      have t1 : a.t = c.t := congrArg Prod.snd e1
      have n2 : b.n = d.n := congrArg Prod.fst e2
      have t2 : b.t = d.t := congrArg Prod.snd e2
      unfold cmpR; rw [n1, t1, n2, t2]
    have hself : ∀ a : PR, cmpR a a = 0 := fun a => (cmpR_zero a a).2 ⟨rfl, rfl⟩
    have hxy : prOf x = prOf y := by
      obtain ⟨z, hz, e⟩ := List.mem_map.1 ((h (prOf x)).1 (by simp))
      obtain ⟨z', hz', e'⟩ := List.mem_map.1 ((h (prOf y)).2 (by simp))
      rcases List.mem_cons.1 hz with rfl | hz
      · exact e.symm
      · rcases List.mem_cons.1 hz' with rfl | hz'
        · exact e'
        · have h1 := hy z hz
          have h2 := hx z' hz'
          rw [pc rfl e] at h1
          rw [pc rfl e', cmpR_neg y x] at h2
          omega
    have hrest : l.map prOf = m.map prOf := strict_unique l m hl' hm' fun q => by
      have hq := h q
      simp only [List.map_cons, List.mem_cons] at hq
      rw [hxy] at hq
      have n1 : prOf y ∉ l.map prOf := fun hm => by
        obtain ⟨z, hz, e⟩ := List.mem_map.1 hm
        have h1 := hx z hz
        rw [pc (c := y) (d := y) hxy e, hself] at h1
        omega
      have n2 : prOf y ∉ m.map prOf := fun hm => by
        obtain ⟨z, hz, e⟩ := List.mem_map.1 hm
        have h1 := hy z hz
        rw [pc (c := y) (d := y) rfl e, hself] at h1
        omega
      constructor
      · intro hin
        rcases hq.1 (.inr hin) with rfl | h
        · exact absurd hin n1
        · exact h
      · intro hin
        rcases hq.2 (.inr hin) with rfl | h
        · exact absurd hin n2
        · exact h
    rw [List.map_cons, List.map_cons, hxy, hrest]
end Go.Proofs.YtdidgddcgjpokaaGreatDoor
/- Schemes with a context: plain facts. -/
namespace Go.Proofs.YtdidgddcgjpokaaGreatDoor
open Go.RowKit Go.Sort Go.Lib
attribute [local go_sem] Oper.semAt_some

/-- A type of no great size, its variables among V. -/
def TOK (V : List ByteArray) (u : T) : Prop := Plain3 u ∧ Nm u ∧ tsize u ≤ 200 ∧ ∀ n ∈ vs u, n ∈ V
def VOK (V : List ByteArray) : Prop := V.length ≤ 4 ∧ ∀ n ∈ V, n.size ≤ 1000
/-- A scheme's types. -/
def SOK (V : List ByteArray) (t : T) (lc : List Pr) : Prop := VOK V ∧ lc.length ≤ 12 ∧ ∀ u ∈ t :: lc.map (·.2), TOK V u
theorem hasTs_inN : ∀ (l : List T), (∀ u ∈ l, NoAll u) → ∀ n, hasTs n l = true ↔ ∃ u ∈ l, n ∈ vs u
  | [], _, n => by simp [hasTs]
  | u :: l, h, n => by
    rw [hasTs, Bool.or_eq_true, hasTs_inN l (fun k hk => h k (List.mem_cons_of_mem _ hk)) n, h u (List.mem_cons_self ..) n]
    simp only [List.mem_cons, exists_eq_or_imp]
theorem fvs_inN (l : List T) (h : ∀ u ∈ l, NoAll u) (n : ByteArray) : n ∈ fvs [] [] l ↔ ∃ u ∈ l, n ∈ vs u := by
  rw [fvs_mem, hasTs_inN l h n]; simp
theorem SOK.all {V : List ByteArray} {t : T} {lc : List Pr} (h : SOK V t lc) : (∀ n, n ∈ fvs [] [] (t :: lc.map (·.2)) ↔ ∃ u ∈ t :: lc.map (·.2), n ∈ vs u) ∧ (fvs [] [] (t :: lc.map (·.2))).length ≤ 4 ∧ (∀ n ∈ fvs [] [] (t :: lc.map (·.2)), n.size ≤ 1000) ∧ tsizes (t :: lc.map (·.2)) ≤ 2600 := by
  have h1 := fvs_inN (t :: lc.map (·.2)) fun u hu => (h.2.2 u hu).1.no
  have hin : ∀ n ∈ fvs [] [] (t :: lc.map (·.2)), n ∈ V := fun n hn => by
    obtain ⟨u, hu, hx⟩ := (h1 n).1 hn
    exact (h.2.2 u hu).2.2.2 n hx
  refine ⟨h1, Nat.le_trans (nodup_lenS (fvs_nodups _ [] [] List.nodup_nil) hin) h.1.1, fun n hn => h.1.2 n (hin n hn), ?_⟩
  have := tsizes_le (t :: lc.map (·.2)) 200 fun u hu => (h.2.2 u hu).2.2.1
  have hl := h.2.1
  simp at this; omega
theorem SOK.same {V : List ByteArray} {t : T} {l m : List Pr} (h : SOK V t l) (hm : ∀ q ∈ m, q ∈ l) (hl : m.length ≤ 12) : SOK V t m :=
  ⟨h.1, hl, fun u hu => by
    rcases List.mem_cons.1 hu with rfl | hu
    · exact h.2.2 _ (List.mem_cons_self ..)
    · obtain ⟨q, hq, rfl⟩ := List.mem_map.1 hu
      exact h.2.2 _ (List.mem_cons_of_mem _ (List.mem_map.2 ⟨q, hm q hq, rfl⟩))⟩
/-- In order, each once. -/
def SrtP (l : List Pr) : Prop := l.Pairwise fun p q : Pr => orI (cmpL p.1.data.toList q.1.data.toList) (cmpT p.2 q.2) < 0
theorem srtP_of {l : List PR} (h : l.Pairwise fun x y => cmpR x y < 0) : SrtP (l.map prOf) := by
  unfold SrtP; rw [List.pairwise_map]; exact h
theorem srtP_one {l m : List Pr} (hl : SrtP l) (hm : SrtP m) (h : ∀ q, q ∈ l ↔ q ∈ m) : l = m := by
  have lift : ∀ k : List Pr, (k.map fun q => (⟨q.1, q.2, none, 0⟩ : PR)).map prOf = k := fun k => by rw [List.map_map]; exact List.map_id k
  have key : ∀ k : List Pr, SrtP k → (k.map fun q => (⟨q.1, q.2, none, 0⟩ : PR)).Pairwise fun x y => cmpR x y < 0 := fun k hk => by
    rw [List.pairwise_map]; exact hk
  have := strict_unique _ _ (key l hl) (key m hm) (fun q => by rw [lift, lift]; exact h q)
  rw [lift, lift] at this
  exact this
/-- The bound ones, the free ones. -/
noncomputable def bsOf (t : T) (l : List Pr) (xs : List ByteArray) : List ByteArray := (fvs [] [] (t :: l.map (·.2))).filter (inB xs)
noncomputable def osOf (t : T) (l : List Pr) (xs : List ByteArray) : List ByteArray := (fvs [] [] (t :: l.map (·.2))).filter fun n => !inB xs n
/-- What Canon makes of a scheme. -/
def CanP (t : T) (lc : List Pr) (xs zn : List ByteArray) (u : T) (l2 : List Pr) : Prop :=
  ∃ l1, SrtP l1 ∧ (∀ q, q ∈ l1 ↔ q ∈ lc) ∧ NewX (bsOf t l1 xs).length (osOf t l1 xs) zn ∧ u = app (prs (bsOf t l1 xs) zn) t ∧ SrtP l2 ∧ ∀ q, q ∈ l2 ↔ q ∈ appP (prs (bsOf t l1 xs) zn) l1
theorem srtP_len {l m : List Pr} (h : SrtP l) (hs : ∀ q ∈ l, q ∈ m) : l.length ≤ m.length := by
  classical
  have hn : l.Nodup := by
    unfold List.Nodup
    exact h.imp fun {x y} hlt e => by
      subst e
      have : cmpR (⟨x.1, x.2, none, 0⟩ : PR) (⟨x.1, x.2, none, 0⟩ : PR) = 0 := (cmpR_zero _ _).2 ⟨rfl, rfl⟩
      have h2 : cmpR (⟨x.1, x.2, none, 0⟩ : PR) (⟨x.1, x.2, none, 0⟩ : PR) < 0 := hlt
      omega
  exact nodup_lenS hn hs
/-- The types of what Canon hands back are no greater. -/
theorem canP_ok {V : List ByteArray} {t : T} {lc : List Pr} {xs zn : List ByteArray} {u : T} {l2 : List Pr} (hok : SOK V t lc) (h : CanP t lc xs zn u l2) : tsize u ≤ 200 ∧ (∀ q ∈ l2, tsize q.2 ≤ 200) ∧ l2.length ≤ 12 ∧ zn.length ≤ 4 := by
  obtain ⟨l1, hs1, hm1, hn, rfl, hs2, hm2⟩ := h
  have hsz : ∀ v : T, tsize (app (prs (bsOf t l1 xs) zn) v) = tsize v := fun v => by
    rw [app_sub]
    refine size_subV v fun y _ => ?_
    by_cases hy : y ∈ bsOf t l1 xs
    · obtain ⟨z, _, e⟩ := ty_prs_in (bsOf t l1 xs) zn y hn.1.1.symm hy; exact ⟨z, e⟩
    · exact ⟨y, ty_prs_out _ zn y hy⟩
  have hl1 : l1.length ≤ 12 := Nat.le_trans (srtP_len hs1 fun q h => (hm1 q).1 h) hok.2.1
  have hok1 := hok.same (fun q h => (hm1 q).1 h) hl1
  refine ⟨by rw [hsz]; exact (hok.2.2 t (List.mem_cons_self ..)).2.2.1, fun q hq => ?_, ?_, ?_⟩
  · obtain ⟨q0, h0, rfl⟩ := List.mem_map.1 ((hm2 q).1 hq)
    show tsize (app _ q0.2) ≤ 200
    rw [hsz]
    exact (hok1.2.2 q0.2 (List.mem_cons_of_mem _ (List.mem_map.2 ⟨q0, h0, rfl⟩))).2.2.1
  · have := srtP_len hs2 fun q h => (hm2 q).1 h
    have hl : (appP (prs (bsOf t l1 xs) zn) l1).length = l1.length := by simp [appP]
    omega
  · rw [hn.1.1]
    have h1 := List.length_filter_le (inB xs) (fvs [] [] (t :: l1.map (·.2)))
    have h2 := hok1.all.2.1
    unfold bsOf; omega
end Go.Proofs.YtdidgddcgjpokaaGreatDoor
/- paideiaref4.before. -/
namespace Go.Proofs.YtdidgddcgjpokaaGreatDoor
open Go.RowKit Go.Sort Go.Lib
attribute [local go_sem] Oper.semAt_some

def befI (p q : Pr) : Int := orI (cmpL p.1.data.toList q.1.data.toList) (cmpT p.2 q.2)
set_option maxRecDepth 100000 in
set_option maxHeartbeats 4000000 in
theorem before_any (p q : Pr) (hs : tsize p.2 ≤ 1000000000) (a b : Option Addr) (c d : Nat) (w : World) (h : TysAt w (.slice a p.2.kids.length c) p.2.kids) (h' : TysAt w (.slice b q.2.kids.length d) q.2.kids) :
    Calls Tryz.prog 47 #[prV p (.slice a p.2.kids.length c), prV q (.slice b q.2.kids.length d)] w fun e w' => e = .returned (.bool (decide (befI p q < 0))) ∧ Below w.heap.size w w' := by
  have e1 : (p.1.toList == q.1.toList) = decide (cmpL p.1.data.toList q.1.data.toList = 0) := by rw [Lib.toList_data, Lib.toList_data, beq_cmpL]
  have e2 : Op.bytesLess p.1.toList q.1.toList = decide (cmpL p.1.data.toList q.1.data.toList < 0) := by rw [Lib.toList_data, Lib.toList_data, less_cmpL]
  have hu := cmpL_unit p.1.data.toList q.1.data.toList
  have HR := Lib.hid (fun (W : World) (k : KeepT w W) => rcmp_any hs (h.keep k) (h'.keep k))
  have HZ := Lib.hid (fun o1 o2 : Obj => (keepT_alloc w o1).trans (keepT_alloc (w.alloc o1) o2))
  have HB := Lib.hid (fun o1 o2 : Obj => (((Below.refl w.heap.size w).alloc (Nat.le_refl _) o1).alloc (by simp) o2))
  unfold befI
  obtain ⟨u, hue⟩ : ∃ u, cmpL p.1.data.toList q.1.data.toList = u := ⟨_, rfl⟩
  obtain ⟨r, hre⟩ : ∃ r, cmpT p.2 q.2 = r := ⟨_, rfl⟩
  rw [hue] at e1 e2 hu ⊢
  rw [hre] at HR ⊢
  have HRe := Lib.hid hre
  clear hue hre h h'
  unfold prV
  rcases hu with rfl | rfl | rfl
  · simp only [show decide ((-1 : Int) = 0) = false from rfl, show decide ((-1 : Int) < 0) = true from rfl] at e1 e2
    go_enter Tryz.func47, Tryz.ntmps47
    go_wp2
    go_ret
    exact ⟨by simp [orI], HB.out _ _⟩
  · simp only [show decide ((0 : Int) < 0) = false from rfl] at e1 e2
    go_enter Tryz.func47, Tryz.ntmps47
    go_wp2_with (go_at_call 71; fail)
    refine (HR.out _ (HZ.out _ _)).mono ?_
    rintro e w' ⟨rfl, hb⟩
    go_wp2
    go_ret
    exact ⟨by simp [orI], (HB.out _ _).trans (hb.mono (by simp; omega))⟩
  · simp only [show decide ((1 : Int) = 0) = false from rfl, show decide ((1 : Int) < 0) = false from rfl] at e1 e2
    go_enter Tryz.func47, Tryz.ntmps47
    go_wp2
    go_ret
    exact ⟨by simp [orI], HB.out _ _⟩
end Go.Proofs.YtdidgddcgjpokaaGreatDoor
/- paideiaref4.SortPreds: one predicate put in its place, as plain data. -/
namespace Go.Proofs.YtdidgddcgjpokaaGreatDoor
open Go.RowKit Go.Sort Go.Lib

theorem cmpR_lt_le {x y z : PR} (h1 : cmpR x y < 0) (h2 : cmpR y z ≤ 0) : cmpR x z < 0 := by
  have h := cmpR_le (Int.le_of_lt h1) h2
  rcases Int.lt_or_eq_of_le h with h | h
  · exact h
  · have hz : cmpR z x ≤ 0 := by rw [cmpR_neg, h]; decide
    have h3 := cmpR_le h2 hz
    rw [cmpR_neg] at h3
    omega
/-- y put at k, the first place that is not ahead of it. -/
theorem ins_strict {ks : List PR} {y : PR} {k : Nat} (h : ks.Pairwise (fun a b => cmpR a b < 0)) (hk : k ≤ ks.length) (h1 : ∀ j, j < k → cmpR (ks.getD j noP) y < 0) (h2 : k < ks.length → 0 < cmpR (ks.getD k noP) y) :
    (ks.take k ++ y :: ks.drop k).Pairwise (fun a b => cmpR a b < 0) := by
  have hd : ∀ b ∈ ks.drop k, cmpR y b < 0 := by
    intro b hb
    by_cases hkl : k < ks.length
    · have e : ks.drop k = ks.getD k noP :: ks.drop (k + 1) := by rw [List.drop_eq_getElem_cons hkl]; simp [List.getD, hkl]
      have hy : cmpR y (ks.getD k noP) < 0 := by rw [cmpR_neg]; have := h2 hkl; omega
      rw [e] at hb
      rcases List.mem_cons.1 hb with rfl | hb
      · exact hy
      · have hp := h.sublist (List.drop_sublist k ks)
        rw [e] at hp
        exact cmpR_lt_le hy (Int.le_of_lt ((List.pairwise_cons.1 hp).1 b hb))
    · rw [List.drop_eq_nil_of_le (by omega)] at hb; exact absurd hb (by simp)
  have ht : ∀ a ∈ ks.take k, cmpR a y < 0 := by
    intro a ha
    obtain ⟨j, hj, rfl⟩ := List.mem_iff_getElem.1 ha
    rw [List.length_take] at hj
    have := h1 j (by omega)
    rw [List.getElem_take]
    rwa [show ks.getD j noP = ks[j]'(by omega) by simp [List.getD, show j < ks.length by omega]] at this
  refine List.pairwise_append.2 ⟨h.sublist (List.take_sublist k ks), List.pairwise_cons.2 ⟨hd, h.sublist (List.drop_sublist k ks)⟩, ?_⟩
  intro a ha b hb
  rcases List.mem_cons.1 hb with rfl | hb
  · exact ht a ha
  · exact cmpR_lt_le (ht a ha) (Int.le_of_lt (hd b hb))
theorem ins_mem {ks : List PR} {y : PR} {k : Nat} (q : Pr) : q ∈ (ks.take k ++ y :: ks.drop k).map prOf ↔ q ∈ ks.map prOf ∨ q = prOf y := by
  have h := List.take_append_drop k ks
  constructor
  · intro hq
    rw [List.map_append, List.map_cons, List.mem_append, List.mem_cons] at hq
    rcases hq with hq | rfl | hq
    · left; rw [← h, List.map_append]; exact List.mem_append_left _ hq
    · right; rfl
    · left; rw [← h, List.map_append]; exact List.mem_append_right _ hq
  · intro hq
    rw [List.map_append, List.map_cons, List.mem_append, List.mem_cons]
    rcases hq with hq | rfl
    · rw [← h, List.map_append, List.mem_append] at hq
      rcases hq with hq | hq
      · exact .inl hq
      · exact .inr (.inr hq)
    · exact .inr (.inl rfl)
end Go.Proofs.YtdidgddcgjpokaaGreatDoor
/- SchemeSorts: what its loops keep. -/
namespace Go.Proofs.YtdidgddcgjpokaaGreatDoor
open Go.RowKit Go.Sort Go.Lib
attribute [local go_sem] Oper.semAt_some

end Go.Proofs.YtdidgddcgjpokaaGreatDoor
