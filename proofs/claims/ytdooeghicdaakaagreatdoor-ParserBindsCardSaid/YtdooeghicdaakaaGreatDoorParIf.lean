/- A choice: a case of True and False. -/
import Derived.Test.YtdooeghicdaakaaGreatDoorParLams
namespace Go.Proofs.YtdooeghicdaakaaGreatDoor
open Go.RowKit
attribute [local go_sem] Oper.semAt_some field_tok0 field_tok1 field_tok2

theorem ExIn.choice {ok : Nat → Prop} {w : World} (p : Int) (x y z : E) {l1 a1 b1 l2 a2 b2 l3 a3 b3 : Value} {g h : Nat} {fz fz' : Nat × Nat} (hx : ExIn ok w x l1 a1 b1) (hy : ExIn ok w y l2 a2 b2) (hz : ExIn ok w z l3 a3 b3)
    (hg : w.heap[g]? = some (.cells #[.int .i64 x.kind, .int .i64 x.pos, .string x.name, .int .i64 x.num, l1, a1, b1] 28 fz)) (hokg : ok g)
    (hh : w.heap[h]? = some (.cells #[.string ⟨#[84, 114, 117, 101]⟩, .slice none 0 0, .int .i64 y.kind, .int .i64 y.pos, .string y.name, .int .i64 y.num, l2, a2, b2, .int .i64 p, .string ⟨#[70, 97, 108, 115, 101]⟩, .slice none 0 0, .int .i64 z.kind, .int .i64 z.pos, .string z.name, .int .i64 z.num, l3, a3, b3, .int .i64 p] 43 fz')) (hokh : ok h) :
    ExIn ok w (.mk 8 p ⟨#[]⟩ 0 [x] [.mk ⟨#[84, 114, 117, 101]⟩ [] y p, .mk ⟨#[70, 97, 108, 115, 101]⟩ [] z p] []) (.slice (some ⟨g, 0, none⟩) 1 1) (.slice (some ⟨h, 0, none⟩) 2 2) (.slice none 0 0) :=
  .mk _ _ _ _ (fun _ => l1) (fun _ => a1) (fun _ => b1) (fun _ => .slice none 0 0) (fun i => if i = 0 then l2 else l3) (fun i => if i = 0 then a2 else a3) (fun i => if i = 0 then b2 else b3) (fun _ => undef) (fun _ => undef) (fun _ => undef) (fun _ => undef) (fun _ => undef) (fun _ => undef)
    (RowIn.new hg hokg (Nat.le_refl _) (fun i hi => by
      obtain rfl : i = 0 := by simpa [E.kids] using hi
      exact ⟨⟨rfl, rfl, rfl, rfl⟩, rfl, rfl, rfl⟩))
    (RowIn.new hh hokh (Nat.le_refl _) (fun i hi => by
      match i, hi with
      | 0, _ => exact ⟨⟨rfl, rfl⟩, ⟨rfl, rfl, rfl, rfl⟩, ⟨rfl, rfl, rfl⟩, rfl⟩
      | 1, _ => exact ⟨⟨rfl, rfl⟩, ⟨rfl, rfl, rfl, rfl⟩, ⟨rfl, rfl, rfl⟩, rfl⟩
      | n + 2, hi => simp [E.alts] at hi; omega)) (RowIn.nil _ _ _ _ _ _) (fun i hi => by
      obtain rfl : i = 0 := by simpa [E.kids] using hi
      exact hx) (fun i hi => by
      match i, hi with
      | 0, _ => exact RowIn.nil _ _ _ _ _ _
      | 1, _ => exact RowIn.nil _ _ _ _ _ _
      | n + 2, hi => simp [E.alts] at hi; omega) (fun i hi => by
      match i, hi with
      | 0, _ => exact hy
      | 1, _ => exact hz
      | n + 2, hi => simp [E.alts] at hi; omega) (fun _ h => absurd h (by simp [E.binds])) (fun _ h => absurd h (by simp [E.binds]))

set_option maxRecDepth 100000 in
set_option maxHeartbeats 8000000 in
theorem if_any (c : Cx) (q : Er) (R : Nat) (rec : St → E × St) (s : St) (h1 : TreeOK c q R 8 (needS c s [105, 102]) (rec (needS c s [105, 102])))
    (h2 : TreeOK c q R 8 (needS c (rec (needS c s [105, 102])).2 [116, 104, 101, 110]) (rec (needS c (rec (needS c s [105, 102])).2 [116, 104, 101, 110])))
    (h3 : TreeOK c q R 8 (needS c (rec (needS c (rec (needS c s [105, 102])).2 [116, 104, 101, 110])).2 [101, 108, 115, 101]) (rec (needS c (rec (needS c (rec (needS c s [105, 102])).2 [116, 104, 101, 110])).2 [101, 108, 115, 101]))) :
    TreeOK c q R 21 s (ifF c rec s) := by
  intro w hrd
  have hR := hrd.lt
  have H := Lib.hid hrd; clear hrd
  have HB := Lib.hid (fun o : Obj => (Below.refl w.heap.size w).alloc (Nat.le_refl _) o)
  have HN1 := Lib.hid (fun W (h : Rd c q R s W) => need_any c q R s ⟨#[105, 102]⟩ W h)
  rw [show (⟨#[105, 102]⟩ : ByteArray).data.toList = [105, 102] from rfl] at HN1
  unfold ifF
  obtain ⟨x, hx⟩ : ∃ x, word c s = x := ⟨_, rfl⟩
  have HX := Lib.hid hx
  simp only [hx]; clear hx
  obtain ⟨sA, hsA⟩ : ∃ sA, needS c s [105, 102] = sA := ⟨_, rfl⟩
  simp only [hsA] at HN1 h1 h2 h3 ⊢; clear hsA
  obtain ⟨r, hr⟩ : ∃ r, rec sA = r := ⟨_, rfl⟩
  simp only [hr] at h1 h2 h3 ⊢; clear hr
  obtain ⟨y1, s1⟩ := r
  simp only at h1 h2 h3 ⊢
  have HN2 := Lib.hid (fun W (h : Rd c q R s1 W) => need_any c q R s1 ⟨#[116, 104, 101, 110]⟩ W h)
  rw [show (⟨#[116, 104, 101, 110]⟩ : ByteArray).data.toList = [116, 104, 101, 110] from rfl] at HN2
  obtain ⟨sB, hsB⟩ : ∃ sB, needS c s1 [116, 104, 101, 110] = sB := ⟨_, rfl⟩
  simp only [hsB] at HN2 h2 h3 ⊢; clear hsB
  obtain ⟨r, hr⟩ : ∃ r, rec sB = r := ⟨_, rfl⟩
  simp only [hr] at h2 h3 ⊢; clear hr
  obtain ⟨y2, s2⟩ := r
  simp only at h2 h3 ⊢
  have HN3 := Lib.hid (fun W (h : Rd c q R s2 W) => need_any c q R s2 ⟨#[101, 108, 115, 101]⟩ W h)
  rw [show (⟨#[101, 108, 115, 101]⟩ : ByteArray).data.toList = [101, 108, 115, 101] from rfl] at HN3
  obtain ⟨sC, hsC⟩ : ∃ sC, needS c s2 [101, 108, 115, 101] = sC := ⟨_, rfl⟩
  simp only [hsC] at HN3 h3 ⊢; clear hsC
  obtain ⟨r, hr⟩ : ∃ r, rec sC = r := ⟨_, rfl⟩
  simp only [hr] at h3 ⊢; clear hr
  obtain ⟨y3, s3⟩ := r
  simp only at h3 ⊢
  simp only [TreeOK] at h1 h2 h3
  have HT1 := Lib.hid h1; have HT2 := Lib.hid h2; have HT3 := Lib.hid h3
  clear h1 h2 h3
  go_enter Tryz.func21, Tryz.ntmps21
  go_wp2_with (first
    | (go_at_call 16; refine (rword_any c q R s _ (H.out.below (HB.out _))).mono ?_; rintro e w2 ⟨rfl, hb2⟩; rw [HX.out, wdV_eq]; have H2 := Lib.hid ((H.out.below (HB.out _)).below hb2); have F2 := Lib.hid (Fr.of_below ((HB.out _).trans (hb2.mono (by simp))) (Nat.le_of_lt hR)); have K2 := Lib.hid ((hb2.block w.heap.size (by simp)).trans (World.alloc_heap_new w _)); clear hb2)
    | (go_at_call 29; (with_reducible refine (HN1.out _ H2.out).mono ?_); rintro e w3 ⟨rfl, h3, f3⟩; have H3 := Lib.hid h3; have F3 := Lib.hid (F2.out.trans f3); have K3 := Lib.hid (f3.2 _ _ K2.out (by omega)); have l3 : w.heap.size < w3.heap.size := (Array.getElem?_eq_some_iff.1 K3.out).1; clear h3 f3)
    | (go_at_call 8; (with_reducible refine (HT1.out _ H3.out).mono ?_); rintro e w4 ⟨⟨p1, p1', p2, p2', p3, p3', rfl, hx⟩, h4, f4⟩; have H4 := Lib.hid h4; have F4 := Lib.hid (F3.out.trans f4); have K4 := Lib.hid (f4.2 _ _ K3.out (by omega)); have l4 := f4.size; have A4 := Lib.hid hx; clear h4 f4 hx; unfold exV)
    | (go_at_call 29; (with_reducible refine (HN2.out _ (H4.out.alloc _)).mono ?_); rintro e w5 ⟨rfl, h5, f5⟩; have H5 := Lib.hid h5; have F5 := Lib.hid ((F4.out.alloc hR _).trans f5); have K5 := Lib.hid (f5.2 _ _ ((Below.heap_alloc w4 _ _ (by omega)).trans K4.out) (by omega)); have P5 := Lib.hid (f5.2 w4.heap.size _ (World.alloc_heap_new w4 _) (by omega)); have A5 := Lib.hid ((A4.out.keep (keep_of_below ((Below.refl _ w4).alloc (Nat.le_refl _) _))).keep (keep_of_fr f5 (by omega))); have l5 : w4.heap.size < w5.heap.size := (Array.getElem?_eq_some_iff.1 P5.out).1; clear h5 f5)
    | (go_at_call 8; (with_reducible refine (HT2.out _ H5.out).mono ?_); rintro e w6 ⟨⟨q1, q1', q2, q2', q3, q3', rfl, hx⟩, h6, f6⟩; have H6 := Lib.hid h6; have F6 := Lib.hid (F5.out.trans f6); have K6 := Lib.hid (f6.2 _ _ K5.out (by omega)); have P6 := Lib.hid (f6.2 _ _ P5.out (by omega)); have A6 := Lib.hid (A5.out.keep (keep_of_fr f6 (by omega))); have l6 := f6.size; have B6 := Lib.hid hx; clear h6 f6 hx; unfold exV)
    | (go_at_call 29; (with_reducible refine (HN3.out _ (H6.out.alloc _)).mono ?_); rintro e w7 ⟨rfl, h7, f7⟩; have H7 := Lib.hid h7; have F7 := Lib.hid ((F6.out.alloc hR _).trans f7); have K7 := Lib.hid (f7.2 _ _ ((Below.heap_alloc w6 _ _ (by omega)).trans K6.out) (by omega)); have P7 := Lib.hid (f7.2 _ _ ((Below.heap_alloc w6 _ _ (by omega)).trans P6.out) (by omega)); have Q7 := Lib.hid (f7.2 w6.heap.size _ (World.alloc_heap_new w6 _) (by omega)); have A7 := Lib.hid ((A6.out.keep (keep_of_below ((Below.refl _ w6).alloc (Nat.le_refl _) _))).keep (keep_of_fr f7 (by omega))); have B7 := Lib.hid ((B6.out.keep (keep_of_below ((Below.refl _ w6).alloc (Nat.le_refl _) _))).keep (keep_of_fr f7 (by omega))); have l7 : w6.heap.size < w7.heap.size := (Array.getElem?_eq_some_iff.1 Q7.out).1; clear h7 f7)
    | (go_at_call 8; (with_reducible refine (HT3.out _ H7.out).mono ?_); rintro e w8 ⟨⟨r1, r1', r2, r2', r3, r3', rfl, hx⟩, h8, f8⟩; have H8 := Lib.hid h8; have F8 := Lib.hid (F7.out.trans f8); have k8 := f8.2 _ _ K7.out (by omega); have p8 := f8.2 _ _ P7.out (by omega); have q8 := f8.2 _ _ Q7.out (by omega); have A8 := Lib.hid (A7.out.keep (keep_of_fr f8 (by omega))); have B8 := Lib.hid (B7.out.keep (keep_of_fr f8 (by omega))); have C8 := Lib.hid hx; have l8 := f8.size; have g0 : w.heap.size < w8.heap.size := (by omega); have g1 : w.heap.size < w8.heap.size + 1 := (by omega); have g2 : w.heap.size < w8.heap.size + 1 + 1 := (by omega); have g4 : w4.heap.size < w8.heap.size := (by omega); have g6 : w6.heap.size < w8.heap.size := (by omega); obtain ⟨k0, k1, k2', k3', k4', k5', k6'⟩ := cells7 k8; obtain ⟨u0, u1, u2, u3, u4, u5, u6⟩ := cells7 p8; obtain ⟨t0, t1, t2, t3, t4, t5, t6⟩ := cells7 q8; have kf := fun i => Lib.frozen_of_heap k8 i; have K8 := Lib.hid k8; clear h8 f8 hx k8 p8 q8; unfold exV))
  have zz := block_set7 K8.out (.int .i64 8) (.int .i64 x.pos) (.string ⟨#[]⟩) (.int .i64 0) (.slice (some ⟨w8.heap.size + 1, 0, none⟩) 1 1) (.slice (some ⟨w8.heap.size + 1 + 1, 0, none⟩) 2 2) (.slice none 0 0)
  have zn := size_set7 (w := w8) (B := w.heap.size) (.int .i64 8) (.int .i64 x.pos) (.string ⟨#[]⟩) (.int .i64 0) (.slice (some ⟨w8.heap.size + 1, 0, none⟩) 1 1) (.slice (some ⟨w8.heap.size + 1 + 1, 0, none⟩) 2 2) (.slice none 0 0)
  have zR := H8.out.set7 (v0 := .int .i64 8) (v1 := .int .i64 x.pos) (v2 := .string ⟨#[]⟩) (v3 := .int .i64 0) (v4 := .slice (some ⟨w8.heap.size + 1, 0, none⟩) 1 1) (v5 := .slice (some ⟨w8.heap.size + 1 + 1, 0, none⟩) 2 2) (v6 := .slice none 0 0) hR K8.out (by decide)
  have zF := F8.out.set7 (v0 := .int .i64 8) (v1 := .int .i64 x.pos) (v2 := .string ⟨#[]⟩) (v3 := .int .i64 0) (v4 := .slice (some ⟨w8.heap.size + 1, 0, none⟩) 1 1) (v5 := .slice (some ⟨w8.heap.size + 1 + 1, 0, none⟩) 2 2) (v6 := .slice none 0 0) hR (Nat.le_refl _)
  have zA := A8.out.laid l3 w.heap.size (Nat.le_of_lt l3) (.int .i64 8) (.int .i64 x.pos) (.string ⟨#[]⟩) (.int .i64 0) (.slice (some ⟨w8.heap.size + 1, 0, none⟩) 1 1) (.slice (some ⟨w8.heap.size + 1 + 1, 0, none⟩) 2 2) (.slice none 0 0)
  have zB := B8.out.laid (show w.heap.size < _ by omega) w.heap.size (by omega) (.int .i64 8) (.int .i64 x.pos) (.string ⟨#[]⟩) (.int .i64 0) (.slice (some ⟨w8.heap.size + 1, 0, none⟩) 1 1) (.slice (some ⟨w8.heap.size + 1 + 1, 0, none⟩) 2 2) (.slice none 0 0)
  have zC := C8.out.laid (show w.heap.size < _ by omega) w.heap.size (by omega) (.int .i64 8) (.int .i64 x.pos) (.string ⟨#[]⟩) (.int .i64 0) (.slice (some ⟨w8.heap.size + 1, 0, none⟩) 1 1) (.slice (some ⟨w8.heap.size + 1 + 1, 0, none⟩) 2 2) (.slice none 0 0)
  obtain ⟨Z, hZ⟩ : ∃ Z, (((((((w8.setCell ⟨w.heap.size, 0, none⟩ (.int .i64 8)).setCell ⟨w.heap.size, 1, none⟩ (.int .i64 x.pos)).setCell ⟨w.heap.size, 2, none⟩ (.string ⟨#[]⟩)).setCell ⟨w.heap.size, 3, none⟩ (.int .i64 0)).setCell ⟨w.heap.size, 4, none⟩ (.slice (some ⟨w8.heap.size + 1, 0, none⟩) 1 1)).setCell ⟨w.heap.size, 5, none⟩ (.slice (some ⟨w8.heap.size + 1 + 1, 0, none⟩) 2 2)).setCell ⟨w.heap.size, 6, none⟩ (.slice none 0 0)) = Z := ⟨_, rfl⟩
  rw [hZ] at zz zn zR zF zA zB zC ⊢
  clear hZ
  rw [← zn]
  have hb3 : ∀ o1 o2 o3 : Obj, Below Z.heap.size Z (((Z.alloc o1).alloc o2).alloc o3) := fun o1 o2 o3 => (((Below.refl _ Z).alloc (Nat.le_refl _) o1).alloc (by simp) o2).alloc (by simp; omega) o3
  have hn2 : ∀ o1 o2 o3 : Obj, (((Z.alloc o1).alloc o2).alloc o3).heap[Z.heap.size + 1]? = some o2 := fun o1 o2 o3 => by
    have := World.alloc_heap_new (Z.alloc o1) o2
    rw [Below.heap_alloc _ _ _ (by simp)]
    simpa only [World.size_alloc] using this
  have hn3 : ∀ o1 o2 o3 : Obj, (((Z.alloc o1).alloc o2).alloc o3).heap[Z.heap.size + 1 + 1]? = some o3 := fun o1 o2 o3 => by
    have := World.alloc_heap_new ((Z.alloc o1).alloc o2) o3
    simpa only [World.size_alloc] using this
  have hlz : w.heap.size < Z.heap.size := (Array.getElem?_eq_some_iff.1 zz).1
  rw [← zn] at zz
  obtain ⟨d0, d1, d2, d3, d4, d5, d6⟩ := cells7 zz
  have hl1 : w.heap.size < Z.heap.size + 1 := by omega
  have hl2 : w.heap.size < Z.heap.size + 1 + 1 := by omega
  refine bodyPost_ret (v := exV (.mk 8 x.pos ⟨#[]⟩ 0 [y1] [.mk ⟨#[84, 114, 117, 101]⟩ [] y2 x.pos, .mk ⟨#[70, 97, 108, 115, 101]⟩ [] y3 x.pos] []) (.slice (some ⟨Z.heap.size + 1, 0, none⟩) 1 1) (.slice (some ⟨Z.heap.size + 1 + 1, 0, none⟩) 2 2) (.slice none 0 0)) ?_ rfl
    ⟨TreeRet.of (ExIn.choice x.pos y1 y2 y3 (zA.keep (keep_of_below (hb3 _ _ _))) (zB.keep (keep_of_below (hb3 _ _ _))) (zC.keep (keep_of_below (hb3 _ _ _))) (hn2 _ _ _) (by show w.heap.size ≤ _; omega) (hn3 _ _ _) (by show w.heap.size ≤ _; omega)), ((zR.alloc _).alloc _).alloc _, ((zF.alloc hR _).alloc hR _).alloc hR _⟩
  simp [results, Tryz.results21, go_sem, exV, E.kind, E.pos, E.name, E.num, d0, d1, d2, d3, d4, d5, d6, hlz, hl1, hl2]
end Go.Proofs.YtdooeghicdaakaaGreatDoor
