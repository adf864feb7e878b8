/- SubstSays, walked. -/
import Derived.Test.YtmbaolcdjgilpaaSbSaysR
import Derived.Deep.RegionLaw
namespace Go.Proofs.Ytmbaolcdjgilpaa
open Go.RowKit Go.Sort Go.Lib
attribute [local go_sem] Oper.semAt_some

theorem prs_var : ∀ {F G : List ByteArray} {x : PR}, x ∈ prs F G → ∃ g, x.t = .var g
  | f :: F, g :: G, x, h => by
    rcases List.mem_cons.1 h with rfl | h
    · exact ⟨g, rfl⟩
    · exact prs_var h
  | [], G, x, h => by simp [prs] at h
  | f :: F, [], x, h => by simp [prs] at h
theorem rapp_name {d : List PR} {v : Value} {nm : ByteArray} {t' : T} {a : Option Addr} {c : Nat} {w : World} (hl : d.length < 1000000) (h : GR v d w) (e : app d (.var nm) = t') :
    Calls Try.prog 13 #[v, .agg #[.int .i64 (T.var nm).kind, .string (T.var nm).name, .slice a 0 c]] w fun e Y => (∃ za zc, e = .returned (.agg #[.int .i64 t'.kind, .string t'.name, .slice za t'.kids.length zc]) ∧ TysAt Y (.slice za t'.kids.length zc) t'.kids) ∧ Below w.heap.size w Y :=
  rapp_is (t := .var nm) (a := a) (c := c) hl h (TysAt.nil _ _ _) (show (1 : Nat) ≤ 1000000 by decide) e
theorem same_name {t : T} {nm : ByteArray} {r : Bool} {a b : Option Addr} {c d : Nat} {w : World} (hz : tsize t ≤ 1000000000) (e : eqB t (.var nm) = r) (h : TysAt w (.slice a t.kids.length c) t.kids) :
    Calls Try.prog 15 #[.agg #[.int .i64 t.kind, .string t.name, .slice a t.kids.length c], .agg #[.int .i64 (T.var nm).kind, .string (T.var nm).name, .slice b 0 d]] w fun e w' => e = .returned (.bool r) ∧ Below w.heap.size w w' := by
  subst e
  exact sameType_any (t := t) (t' := .var nm) (v' := .slice b 0 d) (fits_small hz) h (TysAt.nil _ _ _)
set_option maxRecDepth 100000 in
set_option maxHeartbeats 8000000 in
theorem says_law (a1 a2 a3 : Option Addr) (n1 c1 c2 c3 : Nat) (nm : ByteArray) (F G : List ByteArray) (w : World) (hl : IntsAt w.heap.size a1 n1 w) (hF : StrsP (.slice a2 F.length c2) F w) (hG : StrsP (.slice a3 G.length c3) G w) :
    Calls Try.prog 3 #[.slice a1 n1 c1, .string nm, .slice a2 F.length c2, .slice a3 G.length c3] w fun e w' => e = .returned (.bool true) ∧ Below w.heap.size w w' := by
  obtain ⟨i1, hi1, hy0, hy1, hy2⟩ := info_parts Try.infoRefPair
  have HL := Lib.hid hl; have HF := Lib.hid hF; have HG := Lib.hid hG
  clear hl hF hG
  by_cases hb1 : n1 ≤ 200
  · by_cases hb2 : nm.size ≤ 40
    · by_cases hb3 : F.length ≤ 5
      · by_cases hb4 : G.length ≤ 5
        · have hn1 : n1 < 1152921504606846976 := by omega
          have hb1D : decide ((200 : Int) < (n1 : Int)) = false := by simp; omega
          have hb2D : decide ((40 : Int) < (nm.size : Int)) = false := by simp; omega
          have hb3D : decide ((5 : Int) < (F.length : Int)) = false := by simp; omega
          have hb4D : decide ((5 : Int) < (G.length : Int)) = false := by simp; omega
          go_enter Try.func3, Try.ntmps3
          go_wp2_with (go_at_call 7; refine (first_any _).mono ?_)
          rintro e w1 ⟨rfl, hw1⟩
          have HB1 := Lib.hid hw1; clear hw1
          go_wp2_with (go_at_call 8; refine (pairs_both _ _ _ _ _ _ _ (seq_new HB1.out HL.out) (by decide) hn1).mono ?_)
          rintro e w2 ⟨⟨vA, uA, dA, rfl, hA, hRA⟩, ⟨k1, hk1, hs1⟩, hf1⟩
          have HB2 := Lib.hid ((HB1.out.alloc HB1.out.size _).trans hf1.1)
          have HA := Lib.hid hA; have HRA := Lib.hid hRA; have HS1 := Lib.hid hs1
          clear hA hRA hs1 hf1 HB1 HL
          generalize w1.heap.size = b1 at *
          go_wp2_with (go_at_call 8; refine (pairs_both _ _ _ _ _ _ _ HS1.out (by omega) hn1).mono ?_)
          rintro e w3 ⟨⟨vB, uB, dB, rfl, hB, hRB⟩, ⟨k2, hk2, hs2⟩, hf2⟩
          have HA3 := Lib.hid (HA.out.mk hf2 HS1.out); have HRA3 := Lib.hid (HRA.out.mk hf2 HS1.out); have HBv := Lib.hid hB; have HRB := Lib.hid hRB; have HS2 := Lib.hid hs2; have HB3 := Lib.hid (HB2.out.trans hf2.1)
          clear hB hRB hs2 hf2 HA HRA HS1 HB2
          go_wp2_with (go_at_call 9; refine (make_type4 _ _ _ _ _ _ _ HS2.out (by omega) hn1).mono ?_)
          rintro e w4 ⟨⟨t, u, rfl, hg, hu⟩, ⟨k3, hk3, hs3⟩, hf3⟩
          obtain ⟨pa, ca, rfl⟩ := hu.shape
          have HA4 := Lib.hid (HA3.out.mk hf3 HS2.out); have HRA4 := Lib.hid (HRA3.out.mk hf3 HS2.out); have HB4v := Lib.hid (HBv.out.mk hf3 HS2.out); have HRB4 := Lib.hid (HRB.out.mk hf3 HS2.out); have HS3 := Lib.hid hs3; have HB4 := Lib.hid (HB3.out.trans hf3.1)
          have HT := Lib.hid hu
          have hts : tsize t ≤ 224 := by have := size_text t hg.1; have := hg.2.2; omega
          clear hu hf3 hg hs3 HA3 HRA3 HBv HRB HB3 HS2
          simp only [tyV]
          go_wp2_with (go_at_call 10; refine with_calls (fun V => (SeqAt w.heap.size b1 a1 n1 c1 k3 V ∧ BoxT w4.heap.size t pa ca V) ∧ ((GP vA dA V ∧ GP vB dB V) ∧ GR uA dA V ∧ GR uB dB V) ∧ Below w.heap.size w V) ⟨⟨HS3.out.below (below_a _ _), BoxT.new HT.out⟩, ⟨⟨HA4.out.below (below_a _ _), HB4v.out.below (below_a _ _)⟩, HRA4.out.below (below_a _ _), HRB4.out.below (below_a _ _)⟩, HB4.out.trans ((below_a _ _).mono HB4.out.size)⟩ ?_)
          rintro V ⟨⟨v1, v2⟩, ⟨⟨v3, v4⟩, v5, v6⟩, v7⟩
          have hbt : w4.heap.size ≠ b1 := by have := HS3.out.lt; omega
          refine (make_preds _ _ _ _ _ _ _ v1 (by omega) hn1).mono ?_
          rintro e w5 ⟨⟨pl, pv, rfl, hpl, hp⟩, _, hf4⟩
          have HFA5 := Lib.hid (show FA w w4.heap.size t pa ca uA uB dA dB pv pl (.slice a2 F.length c2) (.slice a3 G.length c3) F G w5 from ⟨v2.made hf4 v1 hbt, ⟨v5.mk hf4 v1, v6.mk hf4 v1⟩, hp, ⟨(HF.out.below (v7.trans hf4.1)), (HG.out.below (v7.trans hf4.1))⟩, v7.trans hf4.1⟩)
          have HA5 := Lib.hid (v3.mk hf4 v1); have HB5 := Lib.hid (v4.mk hf4 v1)
          have HPL := Lib.hid hpl; have HD4 := Lib.hid (show dA.length < 1000000 ∧ dB.length < 1000000 by have := v3.2.1; have := v4.2.1; omega)
          obtain ⟨qa, qc, rfl⟩ := hp.shape
          clear v1 v2 v3 v4 v5 v6 v7 hf4 hp hpl HA4 HB4v HRA4 HRB4 HB4 HS3 HT HF HG hbt
          generalize w4.heap.size = bt at *
          go_wp2_with (go_at_call 11; refine (of_both HA5.out).mono ?_)
          rintro e w6 ⟨⟨sx, lx, rfl, hsx, hbx⟩, hb6⟩
          obtain ⟨xa, xc, rfl⟩ := hsx.shape
          have HFA6 := Lib.hid (HFA5.out.below hb6); have HB6 := Lib.hid (HB5.out.below hb6); have HX := Lib.hid hsx; have HBX := Lib.hid hbx
          clear hsx hbx hb6 HFA5 HB5 HA5
          go_wp2_with (go_at_call 11; refine with_calls (fun V => FA w bt t pa ca uA uB dA dB (.slice qa pl.length qc) pl (.slice a2 F.length c2) (.slice a3 G.length c3) F G V ∧ GP vB dB V ∧ BoxS w6.heap.size (.slice xa lx.length xc) lx V) ⟨HFA6.out.below (below_a _ _), HB6.out.below (below_a _ _), BoxS.new HX.out⟩ ?_)
          rintro V ⟨v1, v2, v3⟩
          refine (of_both v2).mono ?_
          rintro e w7 ⟨⟨sy, ly, rfl, hsy, hby⟩, hb7⟩
          obtain ⟨ya, yc, rfl⟩ := hsy.shape
          have HFA7 := Lib.hid (v1.below hb7); have HX7 := Lib.hid (v3.below hb7); have HY := Lib.hid hsy; have HBY := Lib.hid hby
          clear hsy hby hb7 v1 v2 v3 HFA6 HB6 HX
          generalize w6.heap.size = bs at *
          have HFS := Lib.hid (fun (V : World) (hb : Below w7.heap.size w7 V) (h : V.heap[w7.heap.size]? = some (.cells #[.slice ya ly.length yc] 39 (0, 0))) => (show FA w bt t pa ca uA uB dA dB (.slice qa pl.length qc) pl (.slice a2 F.length c2) (.slice a3 G.length c3) F G V ∧ BoxS bs (.slice xa lx.length xc) lx V ∧ BoxS w7.heap.size (.slice ya ly.length yc) ly V from ⟨HFA7.out.below hb, HX7.out.below hb, h, HY.out.below hb⟩))
          have hd4 : dA.length < 1000000 := HD4.out.1
          have hd5 : dB.length < 1000000 := HD4.out.2
          have htw : app dA (.var nm) = ty nm lx := by rw [← HBX.out.2.2]; rfl
          have c0 := HX7.out.cell
          have lbs := HX7.out.lt
          cases hlk : lk nm lx with
          | none =>
            have htx : app dA (.var nm) = .var nm := by rw [htw]; unfold ty; rw [hlk]; rfl
            have HLk := Lib.hid hlk; have HTx := Lib.hid htx
            clear hlk htx htw
            go_wp2_with (go_at_call 12; refine with_calls (fun V => FA w bt t pa ca uA uB dA dB (.slice qa pl.length qc) pl (.slice a2 F.length c2) (.slice a3 G.length c3) F G V ∧ BoxS bs (.slice xa lx.length xc) lx V ∧ BoxS w7.heap.size (.slice ya ly.length yc) ly V) (HFS.out _ (below_a _ _) (alloc_new _ _)) ?_)
            rintro V v1
            refine (get_none v1.2.1.2 (by have := HBX.out.1; omega) HLk.out).mono ?_
            rintro e w8 ⟨rfl, hb8⟩
            have HF8 := Lib.hid (show FA w bt t pa ca uA uB dA dB (.slice qa pl.length qc) pl (.slice a2 F.length c2) (.slice a3 G.length c3) F G w8 ∧ BoxS bs (.slice xa lx.length xc) lx w8 ∧ BoxS w7.heap.size (.slice ya ly.length yc) ly w8 from ⟨v1.1.below hb8, v1.2.1.below hb8, v1.2.2.below hb8⟩)
            clear v1 hb8 HFS HFA7 HX7 HY HLk
            clear c0 lbs
            generalize w7.heap.size = bu at *
            go_wp2_with (go_at_call 14; refine with_calls (fun V => FA w bt t pa ca uA uB dA dB (.slice qa pl.length qc) pl (.slice a2 F.length c2) (.slice a3 G.length c3) F G V ∧ BoxS bs (.slice xa lx.length xc) lx V ∧ BoxS bu (.slice ya ly.length yc) ly V) ⟨HF8.out.1.below (below_a _ _), HF8.out.2.1.below (below_a _ _), HF8.out.2.2.below (below_a _ _)⟩ ?_)
            rintro V v1
            refine (var_any _ _).mono ?_
            rintro e w9 ⟨⟨vv, rfl, hvv⟩, hb9⟩
            obtain ⟨va, vc, rfl⟩ := hvv.shape
            clear hvv
            have HF9 := Lib.hid (show FA w bt t pa ca uA uB dA dB (.slice qa pl.length qc) pl (.slice a2 F.length c2) (.slice a3 G.length c3) F G w9 ∧ BoxS bs (.slice xa lx.length xc) lx w9 ∧ BoxS bu (.slice ya ly.length yc) ly w9 from ⟨v1.1.below hb9, v1.2.1.below hb9, v1.2.2.below hb9⟩)
            clear v1 hb9 HF8
            generalize w8.heap.size = bg at *
            simp only [tyV]
            go_wp2_with (go_at_call 13; refine (rapp_name hd4 HF9.out.1.2.1.1 HTx.out).mono ?_)
            rintro e w10 ⟨⟨za, zc, rfl, hz⟩, hb10⟩
            have HF10 := Lib.hid (show FA w bt t pa ca uA uB dA dB (.slice qa pl.length qc) pl (.slice a2 F.length c2) (.slice a3 G.length c3) F G w10 ∧ BoxS bs (.slice xa lx.length xc) lx w10 ∧ BoxS bu (.slice ya ly.length yc) ly w10 from ⟨HF9.out.1.below hb10, HF9.out.2.1.below hb10, HF9.out.2.2.below hb10⟩)
            clear hz hb10 HF9
            go_wp2_with fail
            have b11 := below_a w10 (.cells #[.int .i64 (T.var nm).kind, .string (T.var nm).name, .slice za (T.var nm).kids.length zc] 34)
            have hw11 : BoxT w10.heap.size (.var nm) za zc (w10.alloc (.cells #[.int .i64 (T.var nm).kind, .string (T.var nm).name, .slice za (T.var nm).kids.length zc] 34)) := BoxT.new (t := .var nm) (TysAt.nil _ _ _)
            have HF11 := Lib.hid (show FA w bt t pa ca uA uB dA dB (.slice qa pl.length qc) pl (.slice a2 F.length c2) (.slice a3 G.length c3) F G (w10.alloc (.cells #[.int .i64 (T.var nm).kind, .string (T.var nm).name, .slice za (T.var nm).kids.length zc] 34)) ∧ BoxS bs (.slice xa lx.length xc) lx (w10.alloc (.cells #[.int .i64 (T.var nm).kind, .string (T.var nm).name, .slice za (T.var nm).kids.length zc] 34)) ∧ BoxS bu (.slice ya ly.length yc) ly (w10.alloc (.cells #[.int .i64 (T.var nm).kind, .string (T.var nm).name, .slice za (T.var nm).kids.length zc] 34)) from ⟨HF10.out.1.below b11, HF10.out.2.1.below b11, HF10.out.2.2.below b11⟩)
            clear HF10 b11
            generalize w10.alloc (.cells #[.int .i64 (T.var nm).kind, .string (T.var nm).name, .slice za (T.var nm).kids.length zc] 34) = w11 at *
            generalize w10.heap.size = bw at *
            obtain ⟨x0, x1, x2⟩ := hw11.cells
            have HW11 := Lib.hid hw11
            clear hw11
            go_region_with (first
              | (go_at_call 14; refine (var_any _ w11.drew).mono ?_; rintro e w12 ⟨⟨vv, rfl, hvv⟩, hb12⟩; obtain ⟨va2, vc2, rfl⟩ := hvv.shape; clear hvv; have hB12 : Below w11.heap.size w11 w12 := (Below.refl _ w11).drew.trans hb12; have HW12 := Lib.hid (HW11.out.below hB12); have HF12 := Lib.hid (show FA w bt t pa ca uA uB dA dB (.slice qa pl.length qc) pl (.slice a2 F.length c2) (.slice a3 G.length c3) F G w12 ∧ BoxS bs (.slice xa lx.length xc) lx w12 ∧ BoxS bu (.slice ya ly.length yc) ly w12 from ⟨HF11.out.1.below hB12, HF11.out.2.1.below hB12, HF11.out.2.2.below hB12⟩); clear x0 x1 x2; obtain ⟨x0, x1, x2⟩ := HW12.out.cells; clear hb12 hB12; simp only [tyV])
              | (go_at_call 15; refine (same_name (t := .var nm) (show (1 : Nat) ≤ 1000000000 by decide) (eqB_true rfl) HW12.out.2).mono ?_; rintro e w14 ⟨rfl, hB13⟩; have HF14 := Lib.hid (show FA w bt t pa ca uA uB dA dB (.slice qa pl.length qc) pl (.slice a2 F.length c2) (.slice a3 G.length c3) F G w14 ∧ BoxS bs (.slice xa lx.length xc) lx w14 ∧ BoxS bu (.slice ya ly.length yc) ly w14 from ⟨HF12.out.1.below hB13, HF12.out.2.1.below hB13, HF12.out.2.2.below hB13⟩); clear hB13 x0 x1 x2))
            all_goals
              clear HW12 HF12 HF11 HW11
              go_wp2
            all_goals
              go_loopw [23, 24] (fun vo vi wr => ∃ (i : Nat) (ls : List PR), i ≤ min F.length G.length ∧ vi = .int .i64 i ∧ Hid ((ls.length = i ∧ ∀ j, j < i → (ls.getD j noP).n = F.getD j ⟨#[]⟩ ∧ (ls.getD j noP).t = .var (G.getD j ⟨#[]⟩)) ∧ wr.ownsRow w14.heap.size 47 4 vo ls.length (cellsP ls) ∧ (ls = [] → vo = .slice none 0 0)) ∧ Hid ((FA w bt t pa ca uA uB dA dB (.slice qa pl.length qc) pl (.slice a2 F.length c2) (.slice a3 G.length c3) F G wr ∧ BoxS bs (.slice xa lx.length xc) lx wr ∧ BoxS bu (.slice ya ly.length yc) ly wr) ∧ Below w14.heap.size w14 wr)) (fun _ vi _ => min F.length G.length - (intOf vi).toNat)
              case atStart => exact ⟨0, [], Nat.zero_le _, rfl, Lib.hid ⟨⟨rfl, fun j hj => absurd hj (Nat.not_lt_zero _)⟩, World.ownsRow_nil _ _ _ _, fun _ => rfl⟩, Lib.hid ⟨HF14.out, Below.refl _ _⟩⟩
              case round =>
                obtain ⟨i, ls, hik, rfl, hL, hW⟩ := hrel
                by_cases hlt : i < min F.length G.length
                · have hiF : i < F.length := by omega
                  have hiG : i < G.length := by omega
                  have hizF : (i : Int) < (F.length : Int) := by omega
                  have hizG : (i : Int) < (G.length : Int) := by omega
                  obtain ⟨gF, oF, rfl, lF, cF⟩ := hW.out.1.1.2.2.2.1.1.at (by omega)
                  obtain ⟨gG, oG, rfl, lG, cG⟩ := hW.out.1.1.2.2.2.1.2.at (by omega)
                  have xF := cF i hiF
                  have xG := cG i hiG
                  obtain ⟨va, vc, rfl⟩ := row_val hL.out.2.1
                  have HLn := Lib.hid hL.out.1
                  have HRw := Lib.hid hL.out.2.1
                  have hlsn : ls.length ≤ 5 := by have := hL.out.1.1; omega
                  have hsw := hW.out.2.size
                  clear cF cG hL
                  obtain ⟨f, hf⟩ : ∃ f, F.getD i ⟨#[]⟩ = f := ⟨_, rfl⟩
                  obtain ⟨g, hg'⟩ : ∃ g, G.getD i ⟨#[]⟩ = g := ⟨_, rfl⟩
                  have HFe := Lib.hid hf; have HGe := Lib.hid hg'
                  rw [hf] at xF
                  rw [hg'] at xG
                  clear hf hg'
                  go_wp2
                  go_region_law (first
                    | (refine run_bare rfl ?_; go_simp; go_at_call 14; refine (var_any _ wr.drew).mono ?_; rintro e w4 ⟨⟨vv, rfl, hvv⟩, hb4⟩; obtain ⟨va4, vc4, rfl⟩ := hvv.shape; clear hvv; have HB4 : Hid (Below wr.heap.size wr w4) := Lib.hid ((Below.refl _ wr).drew.trans hb4); have xF4 := (HB4.out.cell (p := ⟨gF, oF + i, none⟩) lF).trans xF; have HR4 := Lib.hid (own_below HRw.out HB4.out); clear hb4; simp only [tyV])
                    | (refine step_append_lies _ (by rfl) _ _ 29 (by rfl) w14.heap.size 47 i1 (.agg zeroP) 4 64 Try.underlying29 hi1 hy0 hy1 hy2 rfl (by decide) _ _ _ (by rfl) (HR4.out.alloc _) ⟨w4.heap.size, 0, none⟩ 1 1 [.string f, .int .i64 (T.var g).kind, .string (T.var g).name, .slice va4 0 vc4] (by rfl) rfl (cell_new4 _ _ _ _ _ _) (by simp [Value.oneCell']) (by decide) (by unfold maxLen; omega) (by omega) (by have := HB4.out.size; simp; omega) _ rfl ?_; intro g5 cap5 w5 ho5 hg5 hat5 hlt5))
                  all_goals
                    have hs4 := HB4.out.size
                    have hb5 : Below w14.heap.size w14 w5 := ((hW.out.2.trans (HB4.out.mono hsw)).alloc (by omega) _).grown hg5 (by simp; omega) (fun j hj => (HRw.out.lt j hj).1)
                    have hF5 := And.intro (HF14.out.1.below hb5) (And.intro (HF14.out.2.1.below hb5) (HF14.out.2.2.below hb5))
                    have HF5 := Lib.hid hF5; have HB5 := Lib.hid hb5; have HO5 := Lib.hid ho5
                    clear hF5 hb5 ho5 hg5 hat5 hlt5
                    go_wp2
                    go_roundw
                    case rel =>
                      refine ⟨i + 1, ls ++ [⟨f, .var g, va4, vc4⟩], by omega, by go_num, Lib.hid ⟨⟨by simp [HLn.out.1], fun j hj => ?_⟩, ?_, fun e => by simp at e⟩, Lib.hid ⟨HF5.out, HB5.out⟩⟩
                      · by_cases e : j = i
                        · subst e
                          have e2 : (ls ++ [(⟨f, .var g, va4, vc4⟩ : PR)]).getD j noP = ⟨f, .var g, va4, vc4⟩ := by simp [List.getD, ← HLn.out.1]
                          rw [e2]; exact ⟨HFe.out.symm, by rw [HGe.out]⟩
                        · have hj' : j < ls.length := by have := HLn.out.1; omega
                          have e2 : (ls ++ [(⟨f, .var g, va4, vc4⟩ : PR)]).getD j noP = ls.getD j noP := by simp [List.getD, List.getElem?_append_left hj']
                          rw [e2]; exact HLn.out.2 j (by omega)
                      · rw [cellsP_snoc, List.length_append]; exact HO5.out
                    case measure => simp [intOf]; omega
                · obtain rfl : i = min F.length G.length := by omega
                  have hres : (i' : Nat) → i' = min F.length G.length → True := fun _ _ => trivial
                  have hcp : Copy ls (prs F G) := ⟨by rw [hL.out.1.1, prs_len], fun j hj => by
                    have hj' : j < min F.length G.length := by rw [← hL.out.1.1]; exact hj
                    obtain ⟨e1, e2⟩ := prs_get F G j hj'
                    rw [e1, e2]; exact hL.out.1.2 j hj'⟩
                  have hty : ∀ W, Typ ls W := fun W x hx => by
                    obtain ⟨j, hj, rfl⟩ := List.mem_iff_getElem.1 hx
                    have := (hL.out.1.2 j (by rw [← hL.out.1.1]; exact hj)).2
                    have e3 : ls[j].t = .var (G.getD j ⟨#[]⟩) := by simpa [List.getD, hj] using this
                    rw [e3]; exact TysAt.nil _ _ _
                  have hgr := given_of_row hL.out.2.1 hL.out.2.2
                  have happ : app ls t = app (prs F G) t := app_congr (fun n => by unfold ty; rw [hcp.lk]) t
                  obtain ⟨va, vc, rfl⟩ := row_val hL.out.2.1
                  have hls : ls.length ≤ 5 := by have := hL.out.1.1; omega
                  have HSY := Lib.hid (SY.below (show SY w bt bs bu t pa ca uA uB dA dB (.slice qa pl.length qc) pl (.slice a2 F.length c2) (.slice a3 G.length c3) F G (.slice xa lx.length xc) (.slice ya ly.length yc) lx ly (.slice va ls.length vc) ls wr from ⟨⟨hW.out.1.1, hgr, hty wr⟩, hW.out.1.2.1, hW.out.1.2.2⟩) (below_d wr))
                  have HApp := Lib.hid happ; have HLs := Lib.hid hls
                  have hmin : (((min F.length G.length : Nat) : Int) < (F.length : Int)) = False ∨ ((((min F.length G.length : Nat) : Int) < (F.length : Int)) = True ∧ (((min F.length G.length : Nat) : Int) < (G.length : Int)) = False) := by
                    by_cases h : F.length ≤ G.length
                    · exact .inl (by simp; omega)
                    · exact .inr ⟨by simp; omega, by simp; omega⟩
                  have e1 := size_le lx 56 (by decide) HBX.out.2.1 t
                  rw [HBX.out.2.2] at e1
                  have e2 := size_le ly 56 (by decide) HBY.out.2.1 (app dA t)
                  rw [HBY.out.2.2] at e2
                  have e3 := size_le (prs F G) 1 (by decide) (fun x hx => by obtain ⟨m, hm⟩ := prs_var hx; rw [hm]; exact Nat.le_refl _) t
                  have s0 : tsize t ≤ 1000000000 := by omega
                  have s6 : tsize t ≤ 1000000 := by omega
                  have s1 : tsize (app dA t) ≤ 1000000000 := by omega
                  have s16 : tsize (app dA t) ≤ 1000000 := by omega
                  have s2 : tsize (app dB (app dA t)) ≤ 1000000000 := by omega
                  have s3 : tsize (app (prs F G) t) ≤ 1000000000 := by omega
                  have sp : ∀ q ∈ pl, tsize (app dA q.2) ≤ 1000000000 := fun q hq => by
                    have e4 := size_le lx 56 (by decide) HBX.out.2.1 q.2
                    rw [HBX.out.2.2] at e4
                    have := HPL.out.2 q hq
                    omega
                  clear hres hcp hty hgr happ hls hL hW HF14 e1 e2 e3
                  rcases hmin with hm1 | ⟨hm1, hm2⟩
                  all_goals
                    go_wp2_with fail
                    refine sbs_here (w := w) (bt := bt) (bs := bs) (bu := bu) (t := t) (pa := pa) (ca := ca) (uA := uA) (uB := uB) (dA := dA) (dB := dB) (pv := .slice qa pl.length qc) (pl := pl) (fv := .slice a2 F.length c2) (gv := .slice a3 G.length c3) (F := F) (G := G) (sx := .slice xa lx.length xc) (sy := .slice ya ly.length yc) (lx := lx) (ly := ly) (vb := .slice va ls.length vc) (q := ls)
                      (fun V h => app_ret h.2.1.2 HBX.out (by decide) (by decide) s0 rfl h.1.1.1.2)
                      (fun V h => rapp_is hd4 h.1.1.2.1.1 h.1.1.1.2 s6 rfl)
                      (fun V h _ _ k _ _ k' => same_ret s1 k k')
                      (fun V h => then_ret (M1 := 56) (M2 := 56) h.2.1.2 h.2.2.2 HBX.out HBY.out (by decide) (by decide) (by decide) (by decide) (by decide) (by decide))
                      (fun V h _ _ k => app_ret k.1 k.2 (by decide) (by decide) s0 rfl h.1.1.1.2)
                      (fun V h => rapp_is hd4 h.1.1.2.1.1 h.1.1.1.2 s6 rfl)
                      (fun V h _ _ k => rapp_is hd5 h.1.1.2.1.2 k s16 rfl)
                      (fun V h _ _ k _ _ k' => same_ret s2 k k')
                      (fun V h => preds_is h.2.1.2 HBX.out h.1.1.2.2.1 HPL.out dA (fun t => rfl))
                      (fun V h => rpreds_is h.1.1.2.1.1 hd4 h.1.1.2.2.1 HPL.out)
                      (fun V h _ _ k _ _ k' => samePreds_is HPL.out.1 sp k k')
                      (fun V h => rename_ret (by omega) (by omega) s0 rfl h.1.1.2.2.2.1.1 h.1.1.2.2.2.1.2 h.1.1.1.2)
                      (fun V h => rapp_is (by have := HLs.out; omega) h.1.2 h.1.1.1.2 s6 HApp.out)
                      (fun V h _ _ k _ _ k' => same_ret s3 k k')
                      _ (by kernel_rfl) (by kernel_rfl) (by kernel_rfl) (by kernel_rfl) (by kernel_rfl) (by kernel_rfl) (by kernel_rfl) (by kernel_rfl) (by kernel_rfl) (by kernel_rfl) (by kernel_rfl) (by kernel_rfl) HSY.out ?_
                    intro x V hV hx
                    simp only [sbsFr, hx]
                    simp only [Array.getD_eq_getD_getElem?, List.getElem?_toArray, List.getElem?_cons_succ, List.getElem?_cons_zero, Option.getD_some]
                    go_wp2
                    go_ret
                    exact ⟨rfl, hV.1.1.2.2.2.2⟩
          | some x =>
            have hm := lk_name hlk
            have hxs : tsize x.t ≤ 56 := HBX.out.2.1 x hm.1
            have htx : app dA (.var nm) = x.t := by rw [htw]; unfold ty; rw [hlk]; rfl
            have hne : x.t ≠ .var nm := fun e => by have := HX7.out.2.1.2.2 x hm.1; rw [← hm.2] at e; rw [ownP_iff.2 e] at this; cases this
            have HLk := Lib.hid hlk; have HTx := Lib.hid htx; have HNe := Lib.hid hne
            clear hlk hm htx hne htw
            go_wp2_with (go_at_call 12; refine with_calls (fun V => FA w bt t pa ca uA uB dA dB (.slice qa pl.length qc) pl (.slice a2 F.length c2) (.slice a3 G.length c3) F G V ∧ BoxS bs (.slice xa lx.length xc) lx V ∧ BoxS w7.heap.size (.slice ya ly.length yc) ly V) (HFS.out _ (below_a _ _) (alloc_new _ _)) ?_)
            rintro V v1
            refine (get_some v1.2.1.2 (by have := HBX.out.1; omega) HLk.out (by omega)).mono ?_
            rintro e w8 ⟨⟨ga, gc, rfl, hgt⟩, hb8⟩
            have HF8 := Lib.hid (show FA w bt t pa ca uA uB dA dB (.slice qa pl.length qc) pl (.slice a2 F.length c2) (.slice a3 G.length c3) F G w8 ∧ BoxS bs (.slice xa lx.length xc) lx w8 ∧ BoxS w7.heap.size (.slice ya ly.length yc) ly w8 from ⟨v1.1.below hb8, v1.2.1.below hb8, v1.2.2.below hb8⟩)
            have HG8 := Lib.hid hgt
            clear v1 hgt hb8 HFS HFA7 HX7 HY HLk
            clear c0 lbs
            generalize w7.heap.size = bu at *
            go_wp2_with (go_at_call 14; refine with_calls (fun V => (FA w bt t pa ca uA uB dA dB (.slice qa pl.length qc) pl (.slice a2 F.length c2) (.slice a3 G.length c3) F G V ∧ BoxS bs (.slice xa lx.length xc) lx V ∧ BoxS bu (.slice ya ly.length yc) ly V) ∧ BoxT w8.heap.size x.t ga gc V) ⟨⟨HF8.out.1.below (below_a _ _), HF8.out.2.1.below (below_a _ _), HF8.out.2.2.below (below_a _ _)⟩, BoxT.new HG8.out⟩ ?_)
            rintro V ⟨v1, v2⟩
            refine (var_any _ _).mono ?_
            rintro e w9 ⟨⟨vv, rfl, hvv⟩, hb9⟩
            obtain ⟨va, vc, rfl⟩ := hvv.shape
            clear hvv
            have HF9 := Lib.hid (show FA w bt t pa ca uA uB dA dB (.slice qa pl.length qc) pl (.slice a2 F.length c2) (.slice a3 G.length c3) F G w9 ∧ BoxS bs (.slice xa lx.length xc) lx w9 ∧ BoxS bu (.slice ya ly.length yc) ly w9 from ⟨v1.1.below hb9, v1.2.1.below hb9, v1.2.2.below hb9⟩)
            have HG9 := Lib.hid (v2.below hb9)
            clear v1 v2 hb9 HF8 HG8
            generalize w8.heap.size = bg at *
            simp only [tyV]
            go_wp2_with (go_at_call 13; refine (rapp_name hd4 HF9.out.1.2.1.1 HTx.out).mono ?_)
            rintro e w10 ⟨⟨za, zc, rfl, hz⟩, hb10⟩
            have HF10 := Lib.hid (show FA w bt t pa ca uA uB dA dB (.slice qa pl.length qc) pl (.slice a2 F.length c2) (.slice a3 G.length c3) F G w10 ∧ BoxS bs (.slice xa lx.length xc) lx w10 ∧ BoxS bu (.slice ya ly.length yc) ly w10 from ⟨HF9.out.1.below hb10, HF9.out.2.1.below hb10, HF9.out.2.2.below hb10⟩)
            have HG10 := Lib.hid (HG9.out.below hb10); have HZ10 := Lib.hid hz
            clear hz hb10 HF9 HG9
            go_wp2_with fail
            have b11 := below_a w10 (.cells #[.int .i64 x.t.kind, .string x.t.name, .slice za x.t.kids.length zc] 34)
            have hw11 := BoxT.new (t := x.t) HZ10.out
            have HF11 := Lib.hid (show FA w bt t pa ca uA uB dA dB (.slice qa pl.length qc) pl (.slice a2 F.length c2) (.slice a3 G.length c3) F G (w10.alloc (.cells #[.int .i64 x.t.kind, .string x.t.name, .slice za x.t.kids.length zc] 34)) ∧ BoxS bs (.slice xa lx.length xc) lx (w10.alloc (.cells #[.int .i64 x.t.kind, .string x.t.name, .slice za x.t.kids.length zc] 34)) ∧ BoxS bu (.slice ya ly.length yc) ly (w10.alloc (.cells #[.int .i64 x.t.kind, .string x.t.name, .slice za x.t.kids.length zc] 34)) from ⟨HF10.out.1.below b11, HF10.out.2.1.below b11, HF10.out.2.2.below b11⟩)
            have HG11 := Lib.hid (HG10.out.below b11)
            clear HF10 HG10 HZ10 b11
            generalize w10.alloc (.cells #[.int .i64 x.t.kind, .string x.t.name, .slice za x.t.kids.length zc] 34) = w11 at *
            generalize w10.heap.size = bw at *
            obtain ⟨x0, x1, x2⟩ := hw11.cells
            have HW11 := Lib.hid hw11
            have hnn : eqB x.t (.var nm) = false := eqB_false HNe.out
            have HNn := Lib.hid hnn
            clear hw11 hnn
            go_region_with (first
              | (go_at_call 14; refine (var_any _ w11.drew).mono ?_; rintro e w12 ⟨⟨vv, rfl, hvv⟩, hb12⟩; obtain ⟨va2, vc2, rfl⟩ := hvv.shape; clear hvv; have hB12 : Below w11.heap.size w11 w12 := (Below.refl _ w11).drew.trans hb12; have HW12 := Lib.hid (HW11.out.below hB12); have HG12 := Lib.hid (HG11.out.below hB12); have HF12 := Lib.hid (show FA w bt t pa ca uA uB dA dB (.slice qa pl.length qc) pl (.slice a2 F.length c2) (.slice a3 G.length c3) F G w12 ∧ BoxS bs (.slice xa lx.length xc) lx w12 ∧ BoxS bu (.slice ya ly.length yc) ly w12 from ⟨HF11.out.1.below hB12, HF11.out.2.1.below hB12, HF11.out.2.2.below hB12⟩); clear x0 x1 x2; obtain ⟨x0, x1, x2⟩ := HW12.out.cells; clear hb12 hB12; simp only [tyV])
              | (go_at_call 15; refine (same_name (by omega) HNn.out HW12.out.2).mono ?_; rintro e w13 ⟨rfl, hB13⟩; have HW13 := Lib.hid (HW12.out.below hB13); have HG13 := Lib.hid (HG12.out.below hB13); have HF13 := Lib.hid (show FA w bt t pa ca uA uB dA dB (.slice qa pl.length qc) pl (.slice a2 F.length c2) (.slice a3 G.length c3) F G w13 ∧ BoxS bs (.slice xa lx.length xc) lx w13 ∧ BoxS bu (.slice ya ly.length yc) ly w13 from ⟨HF12.out.1.below hB13, HF12.out.2.1.below hB13, HF12.out.2.2.below hB13⟩); clear hB13 x0 x1 x2))
            all_goals
              obtain ⟨g0, g1, g2⟩ := HG13.out.cells
              obtain ⟨z0, z1, z2⟩ := HW13.out.cells
              go_wp2_with (go_at_call 15; refine (same_ret (by omega) HG13.out.2 HW13.out.2).mono ?_)
              rintro e w14 ⟨rfl, hB14⟩
              have HF14 := Lib.hid (show FA w bt t pa ca uA uB dA dB (.slice qa pl.length qc) pl (.slice a2 F.length c2) (.slice a3 G.length c3) F G w14 ∧ BoxS bs (.slice xa lx.length xc) lx w14 ∧ BoxS bu (.slice ya ly.length yc) ly w14 from ⟨HF13.out.1.below hB14, HF13.out.2.1.below hB14, HF13.out.2.2.below hB14⟩)
              clear hB14 g0 g1 g2 z0 z1 z2 HG13 HW13 HF13 HG12 HW12 HF12 HF11 HG11 HW11
              go_wp2
            all_goals
              go_loopw [23, 24] (fun vo vi wr => ∃ (i : Nat) (ls : List PR), i ≤ min F.length G.length ∧ vi = .int .i64 i ∧ Hid ((ls.length = i ∧ ∀ j, j < i → (ls.getD j noP).n = F.getD j ⟨#[]⟩ ∧ (ls.getD j noP).t = .var (G.getD j ⟨#[]⟩)) ∧ wr.ownsRow w14.heap.size 47 4 vo ls.length (cellsP ls) ∧ (ls = [] → vo = .slice none 0 0)) ∧ Hid ((FA w bt t pa ca uA uB dA dB (.slice qa pl.length qc) pl (.slice a2 F.length c2) (.slice a3 G.length c3) F G wr ∧ BoxS bs (.slice xa lx.length xc) lx wr ∧ BoxS bu (.slice ya ly.length yc) ly wr) ∧ Below w14.heap.size w14 wr)) (fun _ vi _ => min F.length G.length - (intOf vi).toNat)
              case atStart => exact ⟨0, [], Nat.zero_le _, rfl, Lib.hid ⟨⟨rfl, fun j hj => absurd hj (Nat.not_lt_zero _)⟩, World.ownsRow_nil _ _ _ _, fun _ => rfl⟩, Lib.hid ⟨HF14.out, Below.refl _ _⟩⟩
              case round =>
                obtain ⟨i, ls, hik, rfl, hL, hW⟩ := hrel
                by_cases hlt : i < min F.length G.length
                · have hiF : i < F.length := by omega
                  have hiG : i < G.length := by omega
                  have hizF : (i : Int) < (F.length : Int) := by omega
                  have hizG : (i : Int) < (G.length : Int) := by omega
                  obtain ⟨gF, oF, rfl, lF, cF⟩ := hW.out.1.1.2.2.2.1.1.at (by omega)
                  obtain ⟨gG, oG, rfl, lG, cG⟩ := hW.out.1.1.2.2.2.1.2.at (by omega)
                  have xF := cF i hiF
                  have xG := cG i hiG
                  obtain ⟨va, vc, rfl⟩ := row_val hL.out.2.1
                  have HLn := Lib.hid hL.out.1
                  have HRw := Lib.hid hL.out.2.1
                  have hlsn : ls.length ≤ 5 := by have := hL.out.1.1; omega
                  have hsw := hW.out.2.size
                  clear cF cG hL
                  obtain ⟨f, hf⟩ : ∃ f, F.getD i ⟨#[]⟩ = f := ⟨_, rfl⟩
                  obtain ⟨g, hg'⟩ : ∃ g, G.getD i ⟨#[]⟩ = g := ⟨_, rfl⟩
                  have HFe := Lib.hid hf; have HGe := Lib.hid hg'
                  rw [hf] at xF
                  rw [hg'] at xG
                  clear hf hg'
                  go_wp2
                  go_region_law (first
                    | (refine run_bare rfl ?_; go_simp; go_at_call 14; refine (var_any _ wr.drew).mono ?_; rintro e w4 ⟨⟨vv, rfl, hvv⟩, hb4⟩; obtain ⟨va4, vc4, rfl⟩ := hvv.shape; clear hvv; have HB4 : Hid (Below wr.heap.size wr w4) := Lib.hid ((Below.refl _ wr).drew.trans hb4); have xF4 := (HB4.out.cell (p := ⟨gF, oF + i, none⟩) lF).trans xF; have HR4 := Lib.hid (own_below HRw.out HB4.out); clear hb4; simp only [tyV])
                    | (refine step_append_lies _ (by rfl) _ _ 29 (by rfl) w14.heap.size 47 i1 (.agg zeroP) 4 64 Try.underlying29 hi1 hy0 hy1 hy2 rfl (by decide) _ _ _ (by rfl) (HR4.out.alloc _) ⟨w4.heap.size, 0, none⟩ 1 1 [.string f, .int .i64 (T.var g).kind, .string (T.var g).name, .slice va4 0 vc4] (by rfl) rfl (cell_new4 _ _ _ _ _ _) (by simp [Value.oneCell']) (by decide) (by unfold maxLen; omega) (by omega) (by have := HB4.out.size; simp; omega) _ rfl ?_; intro g5 cap5 w5 ho5 hg5 hat5 hlt5))
                  all_goals
                    have hs4 := HB4.out.size
                    have hb5 : Below w14.heap.size w14 w5 := ((hW.out.2.trans (HB4.out.mono hsw)).alloc (by omega) _).grown hg5 (by simp; omega) (fun j hj => (HRw.out.lt j hj).1)
                    have hF5 := And.intro (HF14.out.1.below hb5) (And.intro (HF14.out.2.1.below hb5) (HF14.out.2.2.below hb5))
                    have HF5 := Lib.hid hF5; have HB5 := Lib.hid hb5; have HO5 := Lib.hid ho5
                    clear hF5 hb5 ho5 hg5 hat5 hlt5
                    go_wp2
                    go_roundw
                    case rel =>
                      refine ⟨i + 1, ls ++ [⟨f, .var g, va4, vc4⟩], by omega, by go_num, Lib.hid ⟨⟨by simp [HLn.out.1], fun j hj => ?_⟩, ?_, fun e => by simp at e⟩, Lib.hid ⟨HF5.out, HB5.out⟩⟩
                      · by_cases e : j = i
                        · subst e
                          have e2 : (ls ++ [(⟨f, .var g, va4, vc4⟩ : PR)]).getD j noP = ⟨f, .var g, va4, vc4⟩ := by simp [List.getD, ← HLn.out.1]
                          rw [e2]; exact ⟨HFe.out.symm, by rw [HGe.out]⟩
                        · have hj' : j < ls.length := by have := HLn.out.1; omega
                          have e2 : (ls ++ [(⟨f, .var g, va4, vc4⟩ : PR)]).getD j noP = ls.getD j noP := by simp [List.getD, List.getElem?_append_left hj']
                          rw [e2]; exact HLn.out.2 j (by omega)
                      · rw [cellsP_snoc, List.length_append]; exact HO5.out
                    case measure => simp [intOf]; omega
                · obtain rfl : i = min F.length G.length := by omega
                  have hres : (i' : Nat) → i' = min F.length G.length → True := fun _ _ => trivial
                  have hcp : Copy ls (prs F G) := ⟨by rw [hL.out.1.1, prs_len], fun j hj => by
                    have hj' : j < min F.length G.length := by rw [← hL.out.1.1]; exact hj
                    obtain ⟨e1, e2⟩ := prs_get F G j hj'
                    rw [e1, e2]; exact hL.out.1.2 j hj'⟩
                  have hty : ∀ W, Typ ls W := fun W x hx => by
                    obtain ⟨j, hj, rfl⟩ := List.mem_iff_getElem.1 hx
                    have := (hL.out.1.2 j (by rw [← hL.out.1.1]; exact hj)).2
                    have e3 : ls[j].t = .var (G.getD j ⟨#[]⟩) := by simpa [List.getD, hj] using this
                    rw [e3]; exact TysAt.nil _ _ _
                  have hgr := given_of_row hL.out.2.1 hL.out.2.2
                  have happ : app ls t = app (prs F G) t := app_congr (fun n => by unfold ty; rw [hcp.lk]) t
                  obtain ⟨va, vc, rfl⟩ := row_val hL.out.2.1
                  have hls : ls.length ≤ 5 := by have := hL.out.1.1; omega
                  have HSY := Lib.hid (SY.below (show SY w bt bs bu t pa ca uA uB dA dB (.slice qa pl.length qc) pl (.slice a2 F.length c2) (.slice a3 G.length c3) F G (.slice xa lx.length xc) (.slice ya ly.length yc) lx ly (.slice va ls.length vc) ls wr from ⟨⟨hW.out.1.1, hgr, hty wr⟩, hW.out.1.2.1, hW.out.1.2.2⟩) (below_d wr))
                  have HApp := Lib.hid happ; have HLs := Lib.hid hls
                  have hmin : (((min F.length G.length : Nat) : Int) < (F.length : Int)) = False ∨ ((((min F.length G.length : Nat) : Int) < (F.length : Int)) = True ∧ (((min F.length G.length : Nat) : Int) < (G.length : Int)) = False) := by
                    by_cases h : F.length ≤ G.length
                    · exact .inl (by simp; omega)
                    · exact .inr ⟨by simp; omega, by simp; omega⟩
                  have e1 := size_le lx 56 (by decide) HBX.out.2.1 t
                  rw [HBX.out.2.2] at e1
                  have e2 := size_le ly 56 (by decide) HBY.out.2.1 (app dA t)
                  rw [HBY.out.2.2] at e2
                  have e3 := size_le (prs F G) 1 (by decide) (fun x hx => by obtain ⟨m, hm⟩ := prs_var hx; rw [hm]; exact Nat.le_refl _) t
                  have s0 : tsize t ≤ 1000000000 := by omega
                  have s6 : tsize t ≤ 1000000 := by omega
                  have s1 : tsize (app dA t) ≤ 1000000000 := by omega
                  have s16 : tsize (app dA t) ≤ 1000000 := by omega
                  have s2 : tsize (app dB (app dA t)) ≤ 1000000000 := by omega
                  have s3 : tsize (app (prs F G) t) ≤ 1000000000 := by omega
                  have sp : ∀ q ∈ pl, tsize (app dA q.2) ≤ 1000000000 := fun q hq => by
                    have e4 := size_le lx 56 (by decide) HBX.out.2.1 q.2
                    rw [HBX.out.2.2] at e4
                    have := HPL.out.2 q hq
                    omega
                  clear hres hcp hty hgr happ hls hL hW HF14 e1 e2 e3
                  rcases hmin with hm1 | ⟨hm1, hm2⟩
                  all_goals
                    go_wp2_with fail
                    refine sbs_here (w := w) (bt := bt) (bs := bs) (bu := bu) (t := t) (pa := pa) (ca := ca) (uA := uA) (uB := uB) (dA := dA) (dB := dB) (pv := .slice qa pl.length qc) (pl := pl) (fv := .slice a2 F.length c2) (gv := .slice a3 G.length c3) (F := F) (G := G) (sx := .slice xa lx.length xc) (sy := .slice ya ly.length yc) (lx := lx) (ly := ly) (vb := .slice va ls.length vc) (q := ls)
                      (fun V h => app_ret h.2.1.2 HBX.out (by decide) (by decide) s0 rfl h.1.1.1.2)
                      (fun V h => rapp_is hd4 h.1.1.2.1.1 h.1.1.1.2 s6 rfl)
                      (fun V h _ _ k _ _ k' => same_ret s1 k k')
                      (fun V h => then_ret (M1 := 56) (M2 := 56) h.2.1.2 h.2.2.2 HBX.out HBY.out (by decide) (by decide) (by decide) (by decide) (by decide) (by decide))
                      (fun V h _ _ k => app_ret k.1 k.2 (by decide) (by decide) s0 rfl h.1.1.1.2)
                      (fun V h => rapp_is hd4 h.1.1.2.1.1 h.1.1.1.2 s6 rfl)
                      (fun V h _ _ k => rapp_is hd5 h.1.1.2.1.2 k s16 rfl)
                      (fun V h _ _ k _ _ k' => same_ret s2 k k')
                      (fun V h => preds_is h.2.1.2 HBX.out h.1.1.2.2.1 HPL.out dA (fun t => rfl))
                      (fun V h => rpreds_is h.1.1.2.1.1 hd4 h.1.1.2.2.1 HPL.out)
                      (fun V h _ _ k _ _ k' => samePreds_is HPL.out.1 sp k k')
                      (fun V h => rename_ret (by omega) (by omega) s0 rfl h.1.1.2.2.2.1.1 h.1.1.2.2.2.1.2 h.1.1.1.2)
                      (fun V h => rapp_is (by have := HLs.out; omega) h.1.2 h.1.1.1.2 s6 HApp.out)
                      (fun V h _ _ k _ _ k' => same_ret s3 k k')
                      _ (by kernel_rfl) (by kernel_rfl) (by kernel_rfl) (by kernel_rfl) (by kernel_rfl) (by kernel_rfl) (by kernel_rfl) (by kernel_rfl) (by kernel_rfl) (by kernel_rfl) (by kernel_rfl) (by kernel_rfl) HSY.out ?_
                    intro x V hV hx
                    simp only [sbsFr, hx]
                    simp only [Array.getD_eq_getD_getElem?, List.getElem?_toArray, List.getElem?_cons_succ, List.getElem?_cons_zero, Option.getD_some]
                    go_wp2
                    go_ret
                    exact ⟨rfl, hV.1.1.2.2.2.2⟩
        · clear HL HF HG
          have hb1D : decide ((200 : Int) < (n1 : Int)) = false := by simp; omega
          have hb2D : decide ((40 : Int) < (nm.size : Int)) = false := by simp; omega
          have hb3D : decide ((5 : Int) < (F.length : Int)) = false := by simp; omega
          have hb4D : decide ((5 : Int) < (G.length : Int)) = true := by simp; omega
          go_enter Try.func3, Try.ntmps3
          go_wp2_with (go_at_call 7; refine (first_any _).mono ?_; rintro e w1 ⟨rfl, h1⟩; have HB1 := Lib.hid h1; clear h1)
          exact bodyPost_ret (v := .bool true) (by simp [results, Try.results3, go_sem]) rfl ⟨rfl, HB1.out⟩
      · clear HL HF HG
        have hb1D : decide ((200 : Int) < (n1 : Int)) = false := by simp; omega
        have hb2D : decide ((40 : Int) < (nm.size : Int)) = false := by simp; omega
        have hb3D : decide ((5 : Int) < (F.length : Int)) = true := by simp; omega
        go_enter Try.func3, Try.ntmps3
        go_wp2_with (go_at_call 7; refine (first_any _).mono ?_; rintro e w1 ⟨rfl, h1⟩; have HB1 := Lib.hid h1; clear h1)
        exact bodyPost_ret (v := .bool true) (by simp [results, Try.results3, go_sem]) rfl ⟨rfl, HB1.out⟩
    · clear HL HF HG
      have hb1D : decide ((200 : Int) < (n1 : Int)) = false := by simp; omega
      have hb2D : decide ((40 : Int) < (nm.size : Int)) = true := by simp; omega
      go_enter Try.func3, Try.ntmps3
      go_wp2_with (go_at_call 7; refine (first_any _).mono ?_; rintro e w1 ⟨rfl, h1⟩; have HB1 := Lib.hid h1; clear h1)
      exact bodyPost_ret (v := .bool true) (by simp [results, Try.results3, go_sem]) rfl ⟨rfl, HB1.out⟩
  · clear HL HF HG
    have hb1D : decide ((200 : Int) < (n1 : Int)) = true := by simp; omega
    go_enter Try.func3, Try.ntmps3
    go_wp2_with (go_at_call 7; refine (first_any _).mono ?_; rintro e w1 ⟨rfl, h1⟩; have HB1 := Lib.hid h1; clear h1)
    exact bodyPost_ret (v := .bool true) (by simp [results, Try.results3, go_sem]) rfl ⟨rfl, HB1.out⟩
end Go.Proofs.Ytmbaolcdjgilpaa
