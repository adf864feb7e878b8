/- TypesOrder, walked. -/
import Derived.Test.YteoelcefjjmjiaaTyBox
namespace Go.Proofs.Yteoelcefjjmjiaa
open Go.RowKit
attribute [local go_sem] Oper.semAt_some

/-- Three types in three boxes. -/
def Three (w : World) (bx b' bz : Nat) (tx ty tz : T) (pa pb pc : Option Addr) (ca cb cc : Nat) (V : World) : Prop := (BoxT bx tx pa ca V ∧ BoxT b' ty pb cb V) ∧ BoxT bz tz pc cc V ∧ Below w.heap.size w V
theorem Three.below {w : World} {bx b' bz : Nat} {tx ty tz : T} {pa pb pc : Option Addr} {ca cb cc : Nat} {V V' : World} (h : Three w bx b' bz tx ty tz pa pb pc ca cb cc V) (hb : Below V.heap.size V V') : Three w bx b' bz tx ty tz pa pb pc ca cb cc V' :=
  ⟨⟨h.1.1.below hb, h.1.2.below hb⟩, h.2.1.below hb, h.2.2.trans (hb.mono h.2.2.size)⟩

set_option maxRecDepth 100000 in
set_option maxHeartbeats 8000000 in
theorem order_any (a1 a2 a3 : Option Addr) (n1 n2 n3 c1 c2 c3 : Nat) (w : World) (hl1 : IntsAt w.heap.size a1 n1 w) (hl2 : IntsAt w.heap.size a2 n2 w) (hl3 : IntsAt w.heap.size a3 n3 w) :
    Calls Try.prog 5 #[.slice a1 n1 c1, .slice a2 n2 c2, .slice a3 n3 c3] w fun e w' => e = .returned (.bool true) ∧ Below w.heap.size w w' := by
  have HL1 := Lib.hid hl1; have HL2 := Lib.hid hl2; have HL3 := Lib.hid hl3
  clear hl1 hl2 hl3
  by_cases hb1 : n1 ≤ 60
  · by_cases hb2 : n2 ≤ 60
    · by_cases hb3 : n3 ≤ 60
      · have hn1 : n1 < 1152921504606846976 := by omega
        have hn2 : n2 < 1152921504606846976 := by omega
        have hn3 : n3 < 1152921504606846976 := by omega
        have hb1I : ¬ ((60 : Int) < (n1 : Int)) := by omega
        have hb2I : ¬ ((60 : Int) < (n2 : Int)) := by omega
        have hb3I : ¬ ((60 : Int) < (n3 : Int)) := by omega
        go_enter Try.func5, Try.ntmps5
        go_wp2_with (go_at_call 7; refine (first_any _).mono ?_)
        rintro e W1 rfl hw1
        have HB1 := Lib.hid hw1; clear hw1
        go_wp2_with (go_at_call 8; refine (make_type3 _ _ _ _ _ _ _ (seq_new HB1.out HL1.out) (by decide) hn1).mono ?_)
        rintro e W2 ⟨⟨tx, u, rfl, hgx, hu⟩, ⟨k1, hk1, hs⟩, hf⟩
        obtain ⟨pa, ca, rfl⟩ := hu.shape
        have HB2 := Lib.hid ((HB1.out.alloc HB1.out.size _).trans hf.1)
        have HX := Lib.hid hu; have HGX := Lib.hid hgx.2.1
        clear hu hs hf hgx HB1 hk1
        simp only [tyV]
        go_wp2_with (go_at_call 8; refine with_calls (fun V => (BoxT W2.heap.size tx pa ca V ∧ SeqAt w.heap.size (W2.heap.size + 1) a2 n2 c2 0 V) ∧ Below w.heap.size w V) ⟨⟨(BoxT.new HX.out).alloc _, by have := seq_new (c := c2) (HB2.out.alloc HB2.out.size (.cells #[.int .i64 tx.kind, .string tx.name, .slice pa tx.kids.length ca] 29)) HL2.out; simpa using this⟩, (HB2.out.alloc HB2.out.size _).alloc (by simp; have := HB2.out.size; omega) _⟩ ?_)
        rintro V2 ⟨⟨h1, h2⟩, h3⟩
        refine (make_type3 _ _ _ _ _ _ _ h2 (by decide) hn2).mono ?_
        rintro e W3 ⟨⟨ty, u, rfl, hgy, hu⟩, ⟨k2, hk2, hs⟩, hf⟩
        obtain ⟨pb, cb, rfl⟩ := hu.shape
        have HB3 := Lib.hid (h3.trans hf.1)
        have HX3 := Lib.hid (h1.made hf h2 (by omega))
        have HY := Lib.hid hu; have HGY := Lib.hid hgy.2.1
        clear hu hs hf hgy h1 h2 h3 HB2 HX hk2
        simp only [tyV]
        generalize W2.heap.size = bx at *
        go_wp2_with (go_at_call 8; refine with_calls (fun V => ((BoxT bx tx pa ca V ∧ BoxT W3.heap.size ty pb cb V) ∧ SeqAt w.heap.size (W3.heap.size + 1) a3 n3 c3 0 V) ∧ Below w.heap.size w V) ⟨⟨⟨(HX3.out.alloc _).alloc _, (BoxT.new HY.out).alloc _⟩, by have := seq_new (c := c3) (HB3.out.alloc HB3.out.size (.cells #[.int .i64 ty.kind, .string ty.name, .slice pb ty.kids.length cb] 29)) HL3.out; simpa using this⟩, (HB3.out.alloc HB3.out.size _).alloc (by simp; have := HB3.out.size; omega) _⟩ ?_)
        have hbx := HX3.out.lt
        rintro V3 ⟨⟨⟨h1, h1'⟩, h2⟩, h3⟩
        refine (make_type3 _ _ _ _ _ _ _ h2 (by decide) hn3).mono ?_
        rintro e W4 ⟨⟨tz, u, rfl, hgz, hu⟩, ⟨k3, hk3, hs⟩, hf⟩
        obtain ⟨pc, cc, rfl⟩ := hu.shape
        have HB4 := Lib.hid (h3.trans hf.1)
        have HX4 := Lib.hid (h1.made hf h2 (by omega))
        have HY4 := Lib.hid (h1'.made hf h2 (by omega))
        have HZ := Lib.hid hu; have HGZ := Lib.hid hgz.2.1
        clear hu hs hf hgz h1 h1' h2 h3 HB3 HX3 HY hk3 hbx
        simp only [tyV]
        generalize W3.heap.size = by' at *
        obtain ⟨p, hp⟩ : ∃ p, cmpT tx ty = p := ⟨_, rfl⟩
        obtain ⟨q, hq⟩ : ∃ q, cmpT ty tz = q := ⟨_, rfl⟩
        obtain ⟨r, hr⟩ : ∃ r, cmpT tx tz = r := ⟨_, rfl⟩
        have hT := cmp_tri tx ty tz
        have hp1 := cmp_unit tx ty
        have hq1 := cmp_unit ty tz
        have hr1 := cmp_unit tx tz
        have CXY := Lib.hid (fun (V : World) (h : BoxT bx tx pa ca V) (h' : BoxT by' ty pb cb V) => compare_any (w := V) HGX.out h.2 h'.2)
        have CYX := Lib.hid (fun (V : World) (h : BoxT bx tx pa ca V) (h' : BoxT by' ty pb cb V) => compare_any (w := V) HGY.out h'.2 h.2)
        have CXX := Lib.hid (fun (V : World) (h : BoxT bx tx pa ca V) => compare_any (w := V) HGX.out h.2 h.2)
        have SXY := Lib.hid (fun (V : World) (h : BoxT bx tx pa ca V) (h' : BoxT by' ty pb cb V) => same_any (w := V) HGX.out h.2 h'.2)
        have CYZ := Lib.hid (fun (V : World) (h : BoxT by' ty pb cb V) (h' : BoxT W4.heap.size tz pc cc V) => compare_any (w := V) HGY.out h.2 h'.2)
        have CXZ := Lib.hid (fun (V : World) (h : BoxT bx tx pa ca V) (h' : BoxT W4.heap.size tz pc cc V) => compare_any (w := V) HGX.out h.2 h'.2)
        simp only [cmp_neg tx ty, (cmp_zero tx tx).2 rfl, hp, hq, hr, tyV] at CXY CYX CXX SXY CYZ CXZ hT hp1 hq1 hr1
        clear hp hq hr HGX HGY HGZ
        have HT := Lib.hid hT
        have HP := Lib.hid hp1; have HQ := Lib.hid hq1; have HR := Lib.hid hr1
        clear hT hp1 hq1 hr1
        have HV := Lib.hid (show Three w bx by' W4.heap.size tx ty tz pa pb pc ca cb cc (W4.alloc (.cells #[.int .i64 tz.kind, .string tz.name, .slice pc tz.kids.length cc] 29)) from ⟨⟨HX4.out.alloc _, HY4.out.alloc _⟩, BoxT.new HZ.out, HB4.out.alloc HB4.out.size _⟩)
        obtain ⟨x0, x1, x2⟩ := HX4.out.cells
        obtain ⟨y0, y1, y2⟩ := HY4.out.cells
        have lx := HX4.out.lt
        have ly := HY4.out.lt
        clear HX4 HY4 HZ HB4
        go_wp2_with (go_at_call 19; refine (CXY.out _ HV.out.1.1 HV.out.1.2).mono ?_)
        rintro e V5 ⟨rfl, hb⟩
        have H5 := Lib.hid (HV.out.below hb)
        clear hb HV x0 x1 x2 y0 y1 y2 lx ly
        generalize W4.heap.size = bz at *
        obtain ⟨x0, x1, x2⟩ := H5.out.1.1.cells
        obtain ⟨y0, y1, y2⟩ := H5.out.1.2.cells
        obtain ⟨z0, z1, z2⟩ := H5.out.2.1.cells
        go_wp2_with (go_at_call 19; refine (CYZ.out _ H5.out.1.2 H5.out.2.1).mono ?_)
        rintro e V6 ⟨rfl, hb⟩
        have H6 := Lib.hid (H5.out.below hb)
        clear hb H5 x0 x1 x2 y0 y1 y2 z0 z1 z2
        obtain ⟨x0, x1, x2⟩ := H6.out.1.1.cells
        obtain ⟨y0, y1, y2⟩ := H6.out.1.2.cells
        obtain ⟨z0, z1, z2⟩ := H6.out.2.1.cells
        go_wp2_with (go_at_call 19; refine (CXZ.out _ H6.out.1.1 H6.out.2.1).mono ?_)
        rintro e V7 ⟨rfl, hb⟩
        have H7 := Lib.hid (H6.out.below hb)
        clear hb H6 x0 x1 x2 y0 y1 y2 z0 z1 z2
        obtain ⟨x0, x1, x2⟩ := H7.out.1.1.cells
        obtain ⟨y0, y1, y2⟩ := H7.out.1.2.cells
        have hT := HT.out; have hp1 := HP.out; have hq1 := HQ.out; have hr1 := HR.out
        unfold Tri at hT
        unfold Unit1 at hp1 hq1 hr1
        obtain ⟨t1, t2, t3, t4⟩ := hT
        clear HT HP HQ HR CXY CYZ CXZ
        obtain ⟨m, hm⟩ : ∃ m, -p = m := ⟨_, rfl⟩
        obtain ⟨s0, hs⟩ : ∃ s, (p == 0) = s := ⟨_, rfl⟩
        rw [hm] at CYX
        rw [hs] at SXY
        rcases hp1 with rfl | rfl | rfl <;> rcases hq1 with rfl | rfl | rfl <;> rcases hr1 with rfl | rfl | rfl
        all_goals first
          | (exfalso; clear hm hs; omega)
          | (
            clear t1 t2 t3 t4
            simp at hm hs
            subst hm hs
            go_wp2_with (go_at_call 19; refine (CYX.out _ H7.out.1.1 H7.out.1.2).mono ?_)
            rintro e V8 ⟨rfl, hb⟩
            have H8 := Lib.hid (H7.out.below hb)
            clear hb H7 x0 x1 x2 y0 y1 y2
            obtain ⟨x0, x1, x2⟩ := H8.out.1.1.cells
            obtain ⟨y0, y1, y2⟩ := H8.out.1.2.cells
            go_wp2_with (go_at_call 21; refine (SXY.out _ H8.out.1.1 H8.out.1.2).mono ?_)
            rintro e V9 ⟨rfl, hb⟩
            have H9 := Lib.hid (H8.out.below hb)
            clear hb H8 x0 x1 x2 y0 y1 y2
            obtain ⟨x0, x1, x2⟩ := H9.out.1.1.cells
            go_wp2_with (go_at_call 19; refine (CXX.out _ H9.out.1.1).mono ?_)
            rintro e V10 ⟨rfl, hb⟩
            have H10 := Lib.hid (H9.out.below hb)
            clear hb H9 x0 x1 x2
            go_wp2
            go_ret
            exact ⟨rfl, H10.out.2.2⟩)
      · have hb1I : ¬ ((60 : Int) < (n1 : Int)) := by omega
        have hb2I : ¬ ((60 : Int) < (n2 : Int)) := by omega
        have hb3I : ((60 : Int) < (n3 : Int)) := by omega
        go_enter Try.func5, Try.ntmps5
        go_wp2_with (go_at_call 7; refine (first_any _).mono ?_)
        rintro e W1 rfl hw1
        have HB1 := Lib.hid hw1; clear hw1
        go_wp2
        all_goals go_ret
        all_goals exact ⟨rfl, HB1.out⟩
    · have hb1I : ¬ ((60 : Int) < (n1 : Int)) := by omega
      have hb2I : ((60 : Int) < (n2 : Int)) := by omega
      go_enter Try.func5, Try.ntmps5
      go_wp2_with (go_at_call 7; refine (first_any _).mono ?_)
      rintro e W1 rfl hw1
      have HB1 := Lib.hid hw1; clear hw1
      go_wp2
      all_goals go_ret
      all_goals exact ⟨rfl, HB1.out⟩
  · have hb1I : ((60 : Int) < (n1 : Int)) := by omega
    go_enter Try.func5, Try.ntmps5
    go_wp2_with (go_at_call 7; refine (first_any _).mono ?_)
    rintro e W1 ⟨rfl, hw1⟩
    have HB1 := Lib.hid hw1; clear hw1
    go_wp2
    all_goals go_ret
    all_goals exact ⟨rfl, HB1.out⟩
end Go.Proofs.Yteoelcefjjmjiaa
