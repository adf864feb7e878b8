/- group.order: its groups are told, each time the least of those that could come next. -/
import Derived.Test.YtlpifioneafciaaGrOrdB
import Derived.Test.YtlpifioneafciaaGrTar
import Derived.Deep.RegionLaw
import Derived.Deep.AppendLies
import Derived.Deep.CutRange
namespace Go.Proofs.Ytlpifioneafciaa
open Go.RowKit Go.Maps Go.Lib
attribute [local go_sem] Oper.semAt_some

theorem get4 (w : World) (A B C D : Obj) : (((((w.alloc A).alloc B).alloc C).alloc D).drew).heap[w.heap.size]? = some A ∧ (((((w.alloc A).alloc B).alloc C).alloc D).drew).heap[w.heap.size + 1]? = some B ∧ (((((w.alloc A).alloc B).alloc C).alloc D).drew).heap[w.heap.size + 1 + 1]? = some C ∧ (((((w.alloc A).alloc B).alloc C).alloc D).drew).heap[w.heap.size + 1 + 1 + 1]? = some D := by
  refine ⟨?_, ?_, ?_, ?_⟩ <;> show ((((w.heap.push A).push B).push C).push D)[_]? = _ <;> simp only [Array.getElem?_push, Array.size_push]
  · rw [if_neg (by omega), if_neg (by omega), if_neg (by omega), if_pos trivial]
  · rw [if_neg (by omega), if_neg (by omega), if_pos trivial]
  · rw [if_neg (by omega), if_pos trivial]
  · rw [if_pos trivial]
theorem get4_below (w : World) (A B C D : Obj) : Below w.heap.size w ((((w.alloc A).alloc B).alloc C).alloc D).drew :=
  (((((Below.refl w.heap.size w).alloc (Nat.le_refl _) A).alloc (by simp) B).alloc (by simp; omega) C).alloc (by simp; omega) D).drew
/-- What the loops keep. -/
def OKs (B p c N qr : Nat) (q : Bool → Nat) (qw : Nat) (ring : Nat → Nat) (st : TblS) (w0 X : World) : Prop := ∃ rv, OB B p c q qw rv st.1 st.2 X ∧ RingK B N c qr q qw rv ring X ∧ Below B w0 X
theorem foldl_bnd {a b r m : Nat} {ring : Nat → Nat} {l : List Nat} {st : TblS} (h : BndS a b st) (hm : b + l.length ≤ m) (j : Nat) : BndS a m ((l.take j).foldl (toStep ring r) st) := by
  have h1 := BndS.tos (ring := ring) (r := r) (l.take j) h
  have h2 : (l.take j).length ≤ l.length := by simp; omega
  exact ⟨h1.1, fun x => Nat.le_trans (h1.2.1 x) (by omega), fun x => Nat.le_trans (h1.2.2 x) (by omega)⟩
theorem RowN.cellAt {B a c : Nat} {ad : Option Addr} {l : List Nat} {w : World} (h : RowN B (.slice ad a c) l w) {j : Nat} (hj : j < l.length) : ∃ g o, ad = some ⟨g, o, none⟩ ∧ w.cell? ⟨g, o + j, none⟩ = some (.int .i64 (l.getD j 0 : Nat)) := by
  rcases h with ⟨rfl, _⟩ | ⟨g, o, cap, e, _, _, hc⟩
  · simp at hj
  · cases e; exact ⟨g, o, rfl, hc j hj⟩
set_option maxRecDepth 100000 in
set_option maxHeartbeats 8000000 in
theorem order_any {g n N cap : Nat} {needs : Nat → List Nat} (w : World) (h : RowsAt w.heap.size g N needs w) (h0 : 0 ≤ N) (hn : N < 100000000) (hne : ∀ i, i < N → ∀ x ∈ needs i, x < N) (hL : leftN N (grInit needs) < 1000000000) :
    Calls Try.prog 14 #[.int .i64 (n : Int), .slice (some ⟨g, 0, none⟩) N cap] w fun e w' => (∃ (tv : Value) (dn : List Nat) (t : SS) (B0 : Nat) (ok : Nat → Prop), e = .returned tv ∧ RA N (grInit needs) N t ∧ Greedy t.rings ((builtS n t.ring needs N).1 true) (ltM ((builtS n t.ring needs N).1 false)) dn ∧ (∀ y, ¬ ReadyR t.rings ((builtS n t.ring needs N).1 true) dn y) ∧ TolR B0 ok tv ((builtS n t.ring needs N).1 false) (dn.filter fun r => !((builtS n t.ring needs N).1 false r).isEmpty) w' ∧ w.heap.size ≤ B0 ∧ ∀ k, ok k → w.heap.size ≤ k) ∧ Below w.heap.size w w' := by
  have H0 := Lib.hid h
  have HR := Lib.hid (rings_any (cap := cap) w h h0 hn hne hL)
  have HNE := Lib.hid hne
  have hsum : sumN needs N < 1000000000 := hL
  clear h hL
  go_enter Try.func14, Try.ntmps14
  go_wp2_with (go_at_call 17; fail)
  refine HR.out.mono ?_
  rintro e W2 ⟨⟨t, qr, rfl, hO, hRA, hId⟩, hb⟩
  have HO := Lib.hid hO
  have HT := Lib.hid (And.intro hRA hId)
  have HB := Lib.hid hb
  have hsz : w.heap.size ≤ W2.heap.size := hb.size
  have hcb : t.rings ≤ 99999999 := by have h1 := hId.rg; have h2 := hId.ct; omega
  have hrt := hRA.ring (by unfold grTop; omega) hne
  clear hO hRA hId hb HR hne
  obtain ⟨c, hc⟩ : ∃ c, t.rings = c := ⟨_, rfl⟩
  have HC := Lib.hid hc
  have HRC := Lib.hid (show ∀ k, k < N → t.ring k < c from hc ▸ hrt)
  have hqr : qr < W2.heap.size := (HO.out.lt qr rfl).2
  obtain ⟨i0, hi, hz0, hz1, hz2⟩ := info_parts Try.infoInt0
  rw [hc] at hcb ⊢
  clear hrt
  clear hc
  have hmk := fun w => make_ints c c (Nat.le_refl _) (by omega) w
  have hmr := fun w => make_rows c c (Nat.le_refl _) (by omega) w
  go_wp2_with fail
  rename_i Qq Kk hKk
  have REST : ∀ (V : World) (p qw : Nat) (q : Bool → Nat) (s18 s19 s20 s21 s22 s23 s24 s25 : Value), Hid (OB w.heap.size p c q qw (fun _ _ => .slice none 0 0) (fun _ _ => []) (fun _ => 0) V) → Hid (Below w.heap.size w V) → Hid (RingK w.heap.size N c qr q qw (fun _ _ => .slice none 0 0) t.ring V) → Exit.then Kk Qq .normal ⟨#[.int .i64 (n : Int), .slice (some ⟨g, 0, none⟩) N cap, undef, undef, .slice none 0 0, .slice (some ⟨qr, 0, none⟩) N N, .int .i64 (c : Int), .pointer (some ⟨p, 0, none⟩), undef, undef, undef, undef, undef, .tuple #[.slice (some ⟨qr, 0, none⟩) N N, .int .i64 (c : Int)], .slice (some ⟨g, 0, none⟩) N cap, .tuple #[.slice (some ⟨qr, 0, none⟩) N N, .int .i64 (c : Int)], .slice (some ⟨qr, 0, none⟩) N N, .int .i64 (c : Int), s18, s19, s20, s21, s22, s23, s24, s25, undef, undef, undef, undef, undef, undef, undef, undef, undef, undef, undef, undef, undef, undef, undef, undef, undef, undef, undef, undef, undef, undef, undef, undef, undef, undef, undef, undef, undef, undef, undef, undef, undef, undef, undef, undef, undef, undef, undef, undef, undef, undef, undef, undef, undef, undef, undef, undef, undef, undef, undef, undef, undef, undef, undef, undef, undef, undef, undef, undef, undef, undef, undef, undef, undef, undef, undef, undef, undef, undef, undef], []⟩ V := by
    intro V p qw q s18 s19 s20 s21 s22 s23 s24 s25 hOB hBV hRK
    clear HO HB hmk hmr
    go_wp2_with fail
    go_loopw [28] (fun vi W => ∃ (i : Nat), i ≤ N ∧ vi = .int .i64 i ∧ Hid (OKs w.heap.size p c N qr q qw t.ring (builtS n t.ring needs i) w W)) (fun vi _ => N - (RowKit.intOf vi).toNat)
    case atStart => exact ⟨0, Nat.zero_le _, rfl, Lib.hid ⟨_, hOB.out, hRK.out, hBV.out⟩⟩
    case round =>
      rename World => X1
      obtain ⟨i, hiN, rfl, HK0⟩ := hrel
      clear hOB hRK hBV
      by_cases hlt : i < N
      · obtain ⟨rv, hO1, hK1, hB1⟩ := HK0.out
        have HO1 := Lib.hid hO1
        have HK1 := Lib.hid hK1
        have HB1 := Lib.hid hB1
        clear hO1 hK1 hB1
        have hltI : (i : Int) < (N : Int) := by omega
        have hi0I : (0 : Int) ≤ (i : Int) := by omega
        obtain ⟨z1, z2, z3⟩ := row_cell HK1.out.1 hlt
        have rlt : t.ring i < c := HRC.out i hlt
        obtain ⟨r, hre⟩ : ∃ r, t.ring i = r := ⟨_, rfl⟩
        rw [hre] at z1 rlt
        have HRE := Lib.hid hre
        have hrI : (r : Int) < (c : Int) := by omega
        have hr0 : (0 : Int) ≤ (r : Int) := by omega
        clear hre
        go_upto_if 35 with fail
        go_cut [] from 35 to 51 (fun W => Hid (OKs w.heap.size p c N qr q qw t.ring (memStep n t.ring (builtS n t.ring needs i) i) w W))
        case first =>
          by_cases hin : i < n
          · have hinI : (i : Int) < (n : Int) := by omega
            clear hr0 z1 z2 z3
            have HFn := Lib.hid (fun (l : List Nat) (hl : (builtS n t.ring needs i).1 false r = l) (W : World) (rv' : Bool → Nat → Value) (h1 : OB w.heap.size p c q qw rv' (updBR (builtS n t.ring needs i).1 false r (l ++ [i])) (builtS n t.ring needs i).2 W) (h2 : RingK w.heap.size N c qr q qw rv' t.ring W) (h3 : Below w.heap.size w W) => show Hid (OKs w.heap.size p c N qr q qw t.ring (memStep n t.ring (builtS n t.ring needs i) i) w W) from Lib.hid (by
              rw [show memStep n t.ring (builtS n t.ring needs i) i = (updBR (builtS n t.ring needs i).1 false r ((builtS n t.ring needs i).1 false r ++ [i]), (builtS n t.ring needs i).2) by unfold memStep; rw [if_pos hin, HRE.out], hl]
              exact ⟨rv', h1, h2, h3⟩))
            have hcl := HO1.out.cell false rlt
            obtain ⟨pa, pc, hsh⟩ := (HO1.out.row false r rlt).shape
            have hown0 := HO1.out.row false r rlt
            obtain ⟨x0, x1, x2, x3⟩ := cells4G HO1.out.blk
            obtain ⟨lr, hlr⟩ : ∃ lr, (builtS n t.ring needs i).1 false r = lr := ⟨_, rfl⟩
            obtain ⟨m, hm⟩ : ∃ m, lr.length = m := ⟨_, rfl⟩
            have hmb : m < 1000000000 := by rw [← hm, ← hlr]; exact (by have := (builtS_bnd n t.ring needs i).1 r; omega)
            rw [hlr, hm] at hsh
            obtain ⟨tcs, htb, _, htc⟩ := HO1.out.tbl false
            have htc' := htc r rlt
            rw [hsh] at hcl hown0 htc'
            rw [hlr] at hown0
            obtain ⟨c1, c2, c3⟩ := hcl
            have a0 := fun o : Obj => ((below_allocG X1 o).cell (p := ⟨p, 0, none⟩) (heap_at HO1.out.blk)).trans x0
            have a1 := fun o : Obj => ((below_allocG X1 o).cell (p := ⟨p, 1, none⟩) (heap_at HO1.out.blk)).trans x1
            have a2 := fun o : Obj => ((below_allocG X1 o).cell (p := ⟨q false, r, none⟩) c3).trans c1
            have HRw := Lib.hid (fun (o : Obj) => show (X1.drew.alloc o).ownsRow w.heap.size 3 1 (.slice pa m pc) m (intsV lr) from hm ▸ hown0.drew.alloc o)
            have HLR := Lib.hid hlr
            have HPp := Lib.hid (fun (o : Obj) (w1 : World) (g1 cap1 : Nat) (hg : (X1.drew.alloc o).grownBy w1 (Value.slice pa m pc).ownBlock) (hat : (Value.slice pa m pc).ownBlock = some g1 ∨ g1 = X1.heap.size + 1) (ho : w1.ownsRow w.heap.size 3 1 (.slice (some ⟨g1, 0, none⟩) (m + 1) cap1) (m + 1) (intsV lr ++ [.int .i64 (i : Int)])) => grown_row (m := m + 1) (cap := cap1) (l := lr ++ [i]) HO1.out HK1.out HB1.out HB1.out.size false rlt (by rw [hsh]; exact hg) (by rw [hsh]; exact hat) (hm ▸ OwnI.push (hm.symm ▸ ho)))
            have HTc := Lib.hid (And.intro htb htc')
            have HBk := Lib.hid HO1.out.blk
            have HBs := Lib.hid HB1.out.size
            clear hown0 htb htc htc' hsh hlr HK1 HB1 HO1
            go_wp2_with fail
            go_region_law ((refine step_append_lies _ (by rfl) _ _ 22 (by rfl) w.heap.size 3 i0 (.int .i64 0) 1 8 Try.underlying22 hi hz0 hz1 hz2 rfl (by decide) _ m (intsV lr) (by rfl) (HRw.out _) ⟨X1.heap.size, 0, none⟩ 1 1 [.int .i64 (i : Int)] (by rfl) rfl (frz_oneI _ _ _) (by simp [Value.oneCell']) (by decide) (by unfold maxLen; omega) (by omega) (by have := HBs.out; simp; omega) (X1.heap.size + 1) (by simp) ?_; intro g1 cap1 w1 hown hgr hat hltg; have H := Lib.hid (HPp.out _ _ _ _ hgr hat hown); have hb1 := H.out.2.2.2.2.trans HTc.out.1; have u0 : w1.cell? ⟨q false, r, none⟩ = some (.slice pa m pc) := (Lib.cell_of_heap hb1 r).trans HTc.out.2; have u2 := Lib.frozen_of_heap hb1 r; have hbp := H.out.2.2.2.1.trans HBk.out; have v0 := (cells4G hbp).1; have v1 := (cells4G hbp).2.1; clear hb1 hbp hown hgr hat))
            all_goals
              go_wp2_with fail
              go_meet
              exact HFn.out _ HLR.out _ _ H.out.1 H.out.2.1 H.out.2.2.1
          · have hinI : ¬ (i : Int) < (n : Int) := by omega
            have HST := Lib.hid (show memStep n t.ring (builtS n t.ring needs i) i = builtS n t.ring needs i by unfold memStep; rw [if_neg hin])
            clear HO1 HK1 HB1
            go_wp2_with fail
            go_meet
            exact Lib.hid (by rw [HST.out]; exact HK0.out)
        case rest =>
          clear HO1 HK1 HB1 HK0 z1 z2 z3 rv
          rename World => X2
          have hnl : (needs i).length < 1000000000 := by
            have h1 := sumN_succ needs i
            have h2 := sumN_le needs (show i + 1 ≤ N by omega)
            omega
          obtain ⟨st0, hst0⟩ : ∃ st0, memStep n t.ring (builtS n t.ring needs i) i = st0 := ⟨_, rfl⟩
          have HBD := Lib.hid (show BndS (i + 1) (sumN needs i) st0 from hst0 ▸ (builtS_bnd n t.ring needs i).mem)
          have HSM := Lib.hid (show sumN needs i + (needs i).length < 1000000000 by
            have h1 := sumN_succ needs i
            have h2 := sumN_le needs (show i + 1 ≤ N by omega)
            omega)
          have HEN := Lib.hid (show (needs i).foldl (toStep t.ring r) st0 = builtS n t.ring needs (i + 1) by rw [builtS_succ, ← hst0, ← HRE.out]; rfl)
          rw [hst0] at hcut
          clear hst0
          have HNI := Lib.hid (fun x (hx : x ∈ needs i) => HNE.out i hlt x hx)
          obtain ⟨nL, hnLe⟩ : ∃ nL, needs i = nL := ⟨_, rfl⟩
          have HNL := Lib.hid hnLe
          obtain ⟨ncs, nfz, ng, nsz, nrow⟩ := H0.out
          obtain ⟨nv, nv1, nvr⟩ := nrow i hlt
          rw [hnLe] at nvr hnl HEN HNI HSM
          obtain ⟨na, nc, rfl⟩ := nvr.shape
          have hB2 := hcut.out.choose_spec.2.2
          have ng2 := (hB2.block g (heap_at ng)).trans ng
          have y1 : X2.cell? ⟨g, i, none⟩ = some (.slice na nL.length nc) := by rw [Lib.cell_of_heap ng2]; exact nv1
          have HNR := Lib.hid nvr
          obtain ⟨nn, hnn⟩ : ∃ nn, nL.length = nn := ⟨_, rfl⟩
          rw [hnn] at y1 hnl
          have HNN := Lib.hid hnn
          clear ng ng2 nrow nv1 nvr hB2 hnn hnLe nsz
          go_wp2_with fail
          go_loopw [57] (fun vj W => ∃ (j : Nat), j ≤ nn ∧ vj = .int .i64 j ∧ Hid (OKs w.heap.size p c N qr q qw t.ring ((nL.take j).foldl (toStep t.ring r) st0) w W)) (fun vj _ => nn - (RowKit.intOf vj).toNat)
          case atStart => exact ⟨0, Nat.zero_le _, rfl, hcut⟩
          case round =>
            clear y1 hcut X2
            rename World => X1
            obtain ⟨j, hjn, rfl, HK5⟩ := hrel
            by_cases hj : j < nn
            · have hjI : (j : Int) < (nn : Int) := by omega
              have hj0I : (0 : Int) ≤ (j : Int) := by omega
              obtain ⟨rv, hO1, hK1, hB1⟩ := HK5.out
              have HO1 := Lib.hid hO1
              have HK1 := Lib.hid hK1
              have HB1 := Lib.hid hB1
              have hjL : j < nL.length := by rw [HNN.out]; exact hj
              have nr5 : RowN w.heap.size (.slice na nL.length nc) nL X1 := HNR.out.below fun k hk => hB1.block k hk
              obtain ⟨ng, no, rfl, nc5⟩ := nr5.cellAt hjL
              obtain ⟨x, hx⟩ : ∃ x, nL.getD j 0 = x := ⟨_, rfl⟩
              rw [hx] at nc5
              have hxm : x ∈ nL := by rw [← hx]; simp [List.getD, hjL]
              have hxN : x < N := HNI.out x hxm
              obtain ⟨z1, z2, z3⟩ := row_cell HK1.out.1 hxN
              obtain ⟨rx, hrx⟩ : ∃ rx, t.ring x = rx := ⟨_, rfl⟩
              have rxlt : t.ring x < c := HRC.out x hxN
              rw [hrx] at z1 rxlt
              obtain ⟨stI, hstI⟩ : ∃ stI, (nL.take j).foldl (toStep t.ring r) st0 = stI := ⟨_, rfl⟩
              have HTF := Lib.hid (show (nL.take (j + 1)).foldl (toStep t.ring r) st0 = toStep t.ring r stI x by rw [take_foldl _ _ _ _ hjL, hstI, hx])
              have HBI : Hid (BndS (i + 1) 1000000000 stI) := Lib.hid (hstI ▸ foldl_bnd HBD.out (by have := HSM.out; omega) j)
              have HBI2 : Hid (BndS (i + 1) (sumN needs i + nL.length) stI) := Lib.hid (hstI ▸ foldl_bnd HBD.out (Nat.le_refl _) j)
              rw [hstI] at HO1 HK5
              have HRX := Lib.hid hrx
              have hxI : (x : Int) < (N : Int) := by omega
              have hx0 : (0 : Int) ≤ (x : Int) := by omega
              have hrxI : (rx : Int) < (c : Int) := by omega
              have hrx0 : (0 : Int) ≤ (rx : Int) := by omega
              clear hO1 hK1 hB1 hrx hstI hx hxm nr5 hjL
              have HNX := Lib.hid (fun (st : TblS) (W : World) (e : toStep t.ring r stI x = st) (h : OKs w.heap.size p c N qr q qw t.ring st w W) => show Hid (OKs w.heap.size p c N qr q qw t.ring ((nL.take (j + 1)).foldl (toStep t.ring r) st0) w W) from Lib.hid (by rw [HTF.out, e]; exact h))
              by_cases he : rx = r
              · have hez : ((rx : Int) == (r : Int)) = true := by simp [he]
                have HST := Lib.hid (show toStep t.ring r stI x = stI by unfold toStep; rw [if_pos (by rw [HRX.out]; exact he)])
                have HK7 := HNX.out _ _ HST.out HK5.out
                clear HO1 HK1 HB1
                subst he
                go_wp2_with fail
                go_roundw
                case rel => exact ⟨j + 1, by omega, by go_num, HK7⟩
                case measure => simp [RowKit.intOf]; omega
              · have hez : ((rx : Int) == (r : Int)) = false := by simp; omega
                have HST := Lib.hid (show toStep t.ring r stI x = (updBR stI.1 true rx (stI.1 true rx ++ [r]), updN stI.2 r (stI.2 r + 1)) by unfold toStep; rw [if_neg (by rw [HRX.out]; exact he), HRX.out])
                clear hr0
                have hbd : (stI.1 true rx).length < 1000000000 := by have h1 := HBI2.out.2.1 rx; have h2 := HSM.out; omega
                have hwbd : stI.2 r < 1000000000 := by have h1 := HBI2.out.2.2 r; have h2 := HSM.out; omega
                go_upto_region 13 with fail
                go_cut [] from 67 to 83 (fun W => Hid (OKs w.heap.size p c N qr q qw t.ring (updBR stI.1 true rx (stI.1 true rx ++ [r]), stI.2) w W))
                case first =>
                  clear z1 z2 z3 nc5
                  have HFn := Lib.hid (fun (l : List Nat) (hl : stI.1 true rx = l) (W : World) (rv' : Bool → Nat → Value) (h1 : OB w.heap.size p c q qw rv' (updBR stI.1 true rx (l ++ [r])) stI.2 W) (h2 : RingK w.heap.size N c qr q qw rv' t.ring W) (h3 : Below w.heap.size w W) => show Hid (OKs w.heap.size p c N qr q qw t.ring (updBR stI.1 true rx (stI.1 true rx ++ [r]), stI.2) w W) from Lib.hid ⟨rv', by rw [hl]; exact h1, h2, h3⟩)
                  have hcl := HO1.out.cell true rxlt
                  obtain ⟨pa, pc, hsh⟩ := (HO1.out.row true rx rxlt).shape
                  have hown0 := HO1.out.row true rx rxlt
                  obtain ⟨x0, x1, x2, x3⟩ := cells4G HO1.out.blk
                  obtain ⟨lr, hlr⟩ : ∃ lr, stI.1 true rx = lr := ⟨_, rfl⟩
                  obtain ⟨m, hm⟩ : ∃ m, lr.length = m := ⟨_, rfl⟩
                  have hmb : m < 1000000000 := by rw [← hm, ← hlr]; exact hbd
                  rw [hlr, hm] at hsh
                  obtain ⟨tcs, htb, _, htc⟩ := HO1.out.tbl true
                  have htc' := htc rx rxlt
                  rw [hsh] at hcl hown0 htc'
                  rw [hlr] at hown0
                  obtain ⟨c1, c2, c3⟩ := hcl
                  have a0 := fun o : Obj => ((below_allocG X1 o).cell (p := ⟨p, 0, none⟩) (heap_at HO1.out.blk)).trans x0
                  have a1 := fun o : Obj => ((below_allocG X1 o).cell (p := ⟨p, 1, none⟩) (heap_at HO1.out.blk)).trans x1
                  have a2 := fun o : Obj => ((below_allocG X1 o).cell (p := ⟨q true, rx, none⟩) c3).trans c1
                  have HRw := Lib.hid (fun (o : Obj) => show (X1.drew.alloc o).ownsRow w.heap.size 3 1 (.slice pa m pc) m (intsV lr) from hm ▸ hown0.drew.alloc o)
                  have HLR := Lib.hid hlr
                  have HPp := Lib.hid (fun (o : Obj) (w1 : World) (g1 cap1 : Nat) (hg : (X1.drew.alloc o).grownBy w1 (Value.slice pa m pc).ownBlock) (hat : (Value.slice pa m pc).ownBlock = some g1 ∨ g1 = X1.heap.size + 1) (ho : w1.ownsRow w.heap.size 3 1 (.slice (some ⟨g1, 0, none⟩) (m + 1) cap1) (m + 1) (intsV lr ++ [.int .i64 (r : Int)])) => grown_row (m := m + 1) (cap := cap1) (l := lr ++ [r]) HO1.out HK1.out HB1.out HB1.out.size true rxlt (by rw [hsh]; exact hg) (by rw [hsh]; exact hat) (hm ▸ OwnI.push (hm.symm ▸ ho)))
                  have HTc := Lib.hid (And.intro htb htc')
                  have HBk := Lib.hid HO1.out.blk
                  have HBs := Lib.hid HB1.out.size
                  clear hown0 htb htc htc' hsh hlr HK1 HB1 HO1
                  go_wp2_with fail
                  go_region_law ((refine step_append_lies _ (by rfl) _ _ 22 (by rfl) w.heap.size 3 i0 (.int .i64 0) 1 8 Try.underlying22 hi hz0 hz1 hz2 rfl (by decide) _ m (intsV lr) (by rfl) (HRw.out _) ⟨X1.heap.size, 0, none⟩ 1 1 [.int .i64 (r : Int)] (by rfl) rfl (frz_oneI _ _ _) (by simp [Value.oneCell']) (by decide) (by unfold maxLen; omega) (by omega) (by have := HBs.out; simp; omega) (X1.heap.size + 1) (by simp) ?_; intro g1 cap1 w1 hown hgr hat hltg; have H := Lib.hid (HPp.out _ _ _ _ hgr hat hown); have hb1 := H.out.2.2.2.2.trans HTc.out.1; have u0 : w1.cell? ⟨q true, rx, none⟩ = some (.slice pa m pc) := (Lib.cell_of_heap hb1 rx).trans HTc.out.2; have u2 := Lib.frozen_of_heap hb1 rx; have hbp := H.out.2.2.2.1.trans HBk.out; have v0 := (cells4G hbp).1; have v1 := (cells4G hbp).2.1; clear hb1 hbp hown hgr hat))
                  all_goals
                    go_wp2_with fail
                    go_meet
                    exact HFn.out _ HLR.out _ _ H.out.1 H.out.2.1 H.out.2.2.1
                case rest =>
                  clear HO1 HK1 HB1 HK5 rv z1 z2 z3 nc5
                  rename World => X5
                  obtain ⟨rv2, hO2, hK2, hB2⟩ := hcut.out
                  obtain ⟨x0, x1, x2, x3⟩ := cells4G hO2.blk
                  have hO2w := hO2.wait
                  obtain ⟨wn, hwn⟩ : ∃ wn, stI.2 r = wn := ⟨_, rfl⟩
                  obtain ⟨v1, v2, v3⟩ := row_cell hO2w rlt
                  have v1' : X5.cell? ⟨qw, r, none⟩ = some (.int .i64 (wn : Int)) := by rw [← hwn]; exact v1
                  have hO3 := hO2.setWait (u := r) (x := wn + 1) rlt
                  have hK3 := hK2.setWait (u := r) (x := wn + 1)
                  have hB3 := hB2.setCell (p := ⟨qw, r, none⟩) (hO2w.ge rfl) (.int .i64 ((wn + 1 : Nat) : Int))
                  rw [show ((wn + 1 : Nat) : Int) = (wn : Int) + 1 by omega] at hO3 hK3 hB3
                  rw [hwn] at HST hwbd
                  have HD := HNX.out _ _ HST.out ⟨rv2, hO3, hK3, hB3⟩
                  have hr0 : (0 : Int) ≤ (r : Int) := by omega
                  clear hO2 hK2 hB2 hO3 hK3 hB3 hO2w v1 hcut HST
                  go_wp2_with fail
                  go_roundw
                  case rel => exact ⟨j + 1, by omega, by go_num, HD⟩
                  case measure => simp [RowKit.intOf]; omega
            · obtain rfl : j = nn := by omega
              have hjI : ¬ (j : Int) < (j : Int) := by omega
              have HK6 := Lib.hid (show OKs w.heap.size p c N qr q qw t.ring (builtS n t.ring needs (i + 1)) w X1 by rw [← HEN.out]; have h1 := HK5.out; rwa [← HNN.out, List.take_length] at h1)
              clear HK5
              go_wp2_with fail
              go_roundw
              case rel => exact ⟨i + 1, by omega, by go_num, HK6⟩
              case measure => simp [RowKit.intOf]; omega
      · obtain rfl : i = N := by omega
        have hltI : ¬ (i : Int) < (i : Int) := by omega
        obtain ⟨rv, hO1, hK1, hB1⟩ := HK0.out
        have hbn := builtS_bnd n t.ring needs i
        have hus := builtS_us n (c := c) (N := i) (ring := t.ring) (needs := needs) HRC.out HNE.out i (Nat.le_refl _)
        have HG := Lib.hid (groups_any X1 hO1.made (Nat.le_refl _) (by omega) (fun x => Nat.le_trans (hbn.1 x) (by omega)) (fun x => Nat.le_trans (hbn.2.1 x) (by omega)) (fun x _ u hu => hus.2 x u hu) hus.1 (fun u => Nat.lt_of_le_of_lt (hbn.2.2 u) (by omega)))
        have HBX := Lib.hid hB1
        clear hO1 hK1 hB1 hbn hus HK0
        go_wp2_with (go_at_call 18; fail)
        refine HG.out.mono ?_
        rintro e w5 ⟨tv, dn, rfl, hgr, hno, htl, hb5⟩
        have HE := Lib.hid (And.intro hgr (And.intro hno (And.intro htl hb5)))
        clear hgr hno htl hb5 HG
        go_wp2
        go_ret
        exact ⟨⟨tv, dn, t, X1.heap.size, OkB w.heap.size X1.heap.size qw p, rfl, HT.out.1, by rw [HC.out]; exact HE.out.1, by rw [HC.out]; exact HE.out.2.1, HE.out.2.2.1, HBX.out.size, fun k hk => hk.2.2.2⟩, HBX.out.trans HE.out.2.2.2⟩
  have hcb : c ≤ 1000000000 := by omega
  clear_value Qq
  go_region
  all_goals
    first
      | exact REST _ (W2.heap.size + 1 + 1 + 1) (W2.heap.size + 1 + 1) (fun t => cond t (W2.heap.size + 1) (W2.heap.size)) _ _ _ _ _ _ _ _ (Lib.hid (made_OB (qm := W2.heap.size) (qu := W2.heap.size + 1) (qw := W2.heap.size + 1 + 1) hcb (get4 W2 _ _ _ _).2.2.2 (get4 W2 _ _ _ _).1 (get4 W2 _ _ _ _).2.1 (get4 W2 _ _ _ _).2.2.1 ⟨by omega, by omega, by omega, by omega⟩ (by omega))) (Lib.hid (HB.out.trans ((get4_below W2 _ _ _ _).mono hsz))) (Lib.hid ⟨HO.out.below (get4_below W2 _ _ _ _), fun t => (by cases t <;> simp <;> omega), by omega, fun _ _ _ h => (by cases h)⟩)
      | exact REST _ (W2.heap.size + 1 + 1 + 1) (W2.heap.size + 1) (fun t => cond t (W2.heap.size + 1 + 1) (W2.heap.size)) _ _ _ _ _ _ _ _ (Lib.hid (made_OB (qm := W2.heap.size) (qu := W2.heap.size + 1 + 1) (qw := W2.heap.size + 1) hcb (get4 W2 _ _ _ _).2.2.2 (get4 W2 _ _ _ _).1 (get4 W2 _ _ _ _).2.2.1 (get4 W2 _ _ _ _).2.1 ⟨by omega, by omega, by omega, by omega⟩ (by omega))) (Lib.hid (HB.out.trans ((get4_below W2 _ _ _ _).mono hsz))) (Lib.hid ⟨HO.out.below (get4_below W2 _ _ _ _), fun t => (by cases t <;> simp <;> omega), by omega, fun _ _ _ h => (by cases h)⟩)
      | exact REST _ (W2.heap.size + 1 + 1 + 1) (W2.heap.size + 1 + 1) (fun t => cond t (W2.heap.size) (W2.heap.size + 1)) _ _ _ _ _ _ _ _ (Lib.hid (made_OB (qm := W2.heap.size + 1) (qu := W2.heap.size) (qw := W2.heap.size + 1 + 1) hcb (get4 W2 _ _ _ _).2.2.2 (get4 W2 _ _ _ _).2.1 (get4 W2 _ _ _ _).1 (get4 W2 _ _ _ _).2.2.1 ⟨by omega, by omega, by omega, by omega⟩ (by omega))) (Lib.hid (HB.out.trans ((get4_below W2 _ _ _ _).mono hsz))) (Lib.hid ⟨HO.out.below (get4_below W2 _ _ _ _), fun t => (by cases t <;> simp <;> omega), by omega, fun _ _ _ h => (by cases h)⟩)
      | exact REST _ (W2.heap.size + 1 + 1 + 1) (W2.heap.size) (fun t => cond t (W2.heap.size + 1 + 1) (W2.heap.size + 1)) _ _ _ _ _ _ _ _ (Lib.hid (made_OB (qm := W2.heap.size + 1) (qu := W2.heap.size + 1 + 1) (qw := W2.heap.size) hcb (get4 W2 _ _ _ _).2.2.2 (get4 W2 _ _ _ _).2.1 (get4 W2 _ _ _ _).2.2.1 (get4 W2 _ _ _ _).1 ⟨by omega, by omega, by omega, by omega⟩ (by omega))) (Lib.hid (HB.out.trans ((get4_below W2 _ _ _ _).mono hsz))) (Lib.hid ⟨HO.out.below (get4_below W2 _ _ _ _), fun t => (by cases t <;> simp <;> omega), by omega, fun _ _ _ h => (by cases h)⟩)
      | exact REST _ (W2.heap.size + 1 + 1 + 1) (W2.heap.size + 1) (fun t => cond t (W2.heap.size) (W2.heap.size + 1 + 1)) _ _ _ _ _ _ _ _ (Lib.hid (made_OB (qm := W2.heap.size + 1 + 1) (qu := W2.heap.size) (qw := W2.heap.size + 1) hcb (get4 W2 _ _ _ _).2.2.2 (get4 W2 _ _ _ _).2.2.1 (get4 W2 _ _ _ _).1 (get4 W2 _ _ _ _).2.1 ⟨by omega, by omega, by omega, by omega⟩ (by omega))) (Lib.hid (HB.out.trans ((get4_below W2 _ _ _ _).mono hsz))) (Lib.hid ⟨HO.out.below (get4_below W2 _ _ _ _), fun t => (by cases t <;> simp <;> omega), by omega, fun _ _ _ h => (by cases h)⟩)
      | exact REST _ (W2.heap.size + 1 + 1 + 1) (W2.heap.size) (fun t => cond t (W2.heap.size + 1) (W2.heap.size + 1 + 1)) _ _ _ _ _ _ _ _ (Lib.hid (made_OB (qm := W2.heap.size + 1 + 1) (qu := W2.heap.size + 1) (qw := W2.heap.size) hcb (get4 W2 _ _ _ _).2.2.2 (get4 W2 _ _ _ _).2.2.1 (get4 W2 _ _ _ _).2.1 (get4 W2 _ _ _ _).1 ⟨by omega, by omega, by omega, by omega⟩ (by omega))) (Lib.hid (HB.out.trans ((get4_below W2 _ _ _ _).mono hsz))) (Lib.hid ⟨HO.out.below (get4_below W2 _ _ _ _), fun t => (by cases t <;> simp <;> omega), by omega, fun _ _ _ h => (by cases h)⟩)
end Go.Proofs.Ytlpifioneafciaa
