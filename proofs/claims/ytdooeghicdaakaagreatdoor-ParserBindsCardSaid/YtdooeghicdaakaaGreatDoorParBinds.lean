/- The law ParserBinds, walked. -/
import Derived.Test.YtdooeghicdaakaaGreatDoorParFirst
import Derived.Lib.ConvBytes
namespace Go.Proofs.YtdooeghicdaakaaGreatDoor
open Go.RowKit
attribute [local go_sem] Oper.semAt_some

theorem conv_bytes (w : World) (s : ByteArray) (cap : Nat) : BytesAt (Lib.bytesWorld w 5 s) (.slice (some ⟨w.heap.size, 0, none⟩) s.size cap) s :=
  ⟨_, cap, rfl, .inr ⟨w.heap.size, 0, rfl, fun i hi => by
    rw [Nat.zero_add, Lib.bytesWorld_cell w 5 s i hi]
    have := Lib.data_getElem? s i hi
    simp [List.getD, this]⟩⟩
theorem conv_bytes' {g : Nat} (w : World) (s : ByteArray) (cap : Nat) (hg : g = w.heap.size) : BytesAt (Lib.bytesWorld w 5 s) (.slice (some ⟨g, 0, none⟩) s.size cap) s := by subst hg; exact conv_bytes w s cap
theorem conv_below (w : World) (s : ByteArray) : Below w.heap.size w (Lib.bytesWorld w 5 s) := by
  refine ⟨rfl, rfl, rfl, ?_, fun k hk => Lib.bytesWorld_at_old w _ s k hk⟩
  have := Lib.bytesWorld_size w 5 s
  show w.heap.size ≤ (Lib.bytesWorld w 5 s).heap.size
  omega
theorem row_text (l : List ByteArray) (w : World) (t : TypeId) (k : Nat) (hk : k < l.length) : (w.alloc (.cells (l.map Value.string).toArray t)).cell? ⟨w.heap.size, k, none⟩ = some (.string (l.getD k ⟨#[]⟩)) := by
  have := World.alloc_heap_new w (.cells (l.map Value.string).toArray t)
  simp only [World.cell?, this]
  simp [List.getD, hk]

set_option maxRecDepth 100000 in
set_option maxHeartbeats 4000000 in
theorem binds_any (z : Int) (aX : Addr) (q : Er) (w : World) (_ : -9223372036854775808 ≤ z) (_ : z ≤ 9223372036854775807) (hX : w.cell? ⟨2, 0, none⟩ = some (errL aX)) (hT : TwoErrs w q.aP q.aL) :
    Calls Tryz.prog 3 #[.int .i64 z] w fun e w' => e = .returned (.bool true) ∧ Below w.heap.size w w' := by
  have k1 := Int.tmod_lt_of_pos z (show (0 : Int) < 12 by omega)
  have k2 := Int.lt_tmod_of_pos z (show (0 : Int) < 12 by omega)
  obtain ⟨r, hr⟩ : ∃ r, z.tmod 12 = r := ⟨_, rfl⟩
  rw [hr] at k1 k2
  obtain ⟨k, hk⟩ : ∃ k : Nat, (r + 12) % 12 = (k : Int) := ⟨((r + 12) % 12).toNat, by omega⟩
  have hk12 : k < 12 := by omega
  have kc := fun (w : World) (s : ByteArray) => Lib.run_convert_string_bytes (P := Tryz.prog) w 9 33 5 s Tryz.underlying9 Tryz.underlying33 Tryz.underlying5
  obtain ⟨t, ht⟩ : ∃ t, (bindsT.map Value.string)[k]'(by simpa [bindsT] using hk12) = .string t ∧ bindsT[k]'(by simpa [bindsT] using hk12) = t := ⟨bindsT[k]'(by simpa [bindsT] using hk12), List.getElem_map _, rfl⟩
  obtain ⟨f, hf⟩ : ∃ f, (bindsF.map Value.string)[k]'(by simpa [bindsF] using hk12) = .string f ∧ bindsF[k]'(by simpa [bindsF] using hk12) = f := ⟨bindsF[k]'(by simpa [bindsF] using hk12), List.getElem_map _, rfl⟩
  have hok : bindsOK t f = true := by
    have := List.all_eq_true.1 binds_all (t, f) (by
      rw [← ht.2, ← hf.2]
      have hz : (bindsT.zip bindsF)[k]'(by simpa [bindsT, bindsF] using hk12) = (bindsT[k]'(by simpa [bindsT] using hk12), bindsF[k]'(by simpa [bindsF] using hk12)) := by simp
      rw [← hz]; exact List.getElem_mem _)
    exact this
  have ht1 := ht.1
  have hf1 := hf.1
  simp only [bindsT, bindsF, List.map] at ht1 hf1
  clear ht hf
  have HF := Lib.hid (fun W (hb : Below w.heap.size w W) => first3_any aX q W ((hb.cell (p := ⟨2, 0, none⟩) (World.block_lt_of_cell? _ _ hX)).trans hX) ⟨(hb.cell (p := ⟨0, 0, none⟩) (World.block_lt_of_cell? _ _ hT.1)).trans hT.1, (hb.cell (p := ⟨1, 0, none⟩) (World.block_lt_of_cell? _ _ hT.2)).trans hT.2⟩)
  go_enter Tryz.func3, Tryz.ntmps3
  go_wp2_with (go_at_call 4; refine (HF.out _ (Below.refl _ _)).mono ?_; rintro e w1 ⟨rfl, hb1⟩; have HB1 := Lib.hid hb1; clear hb1)
  have hW0 : ∀ o1 o2 : Obj, Below w.heap.size w (Lib.bytesWorld ((w1.alloc o1).alloc o2) 5 t) := fun o1 o2 =>
    ((HB1.out.trans (((Below.refl _ w1).alloc (Nat.le_refl _) o1).mono HB1.out.size)).alloc (by have := HB1.out.size; simp; omega) o2).trans ((conv_below _ t).mono (by have := HB1.out.size; simp; omega))
  simp only [bindsOK, Bool.and_eq_true, decide_eq_true_eq] at hok
  obtain ⟨⟨⟨s1, s2⟩, pt, rt⟩, hrest⟩ := hok
  have HRest := Lib.hid hrest
  have HW0 := Lib.hid hW0
  clear hrest hW0
  refine (exprPlain_any _ t (by omega) pt rt aX q _ (conv_bytes' (g := w1.heap.size + 1 + 1) _ t _ (by simp)) (((HW0.out _ _).cell (p := ⟨2, 0, none⟩) (World.block_lt_of_cell? _ _ hX)).trans hX) ⟨((HW0.out _ _).cell (p := ⟨0, 0, none⟩) (World.block_lt_of_cell? _ _ hT.1)).trans hT.1, ((HW0.out _ _).cell (p := ⟨1, 0, none⟩) (World.block_lt_of_cell? _ _ hT.2)).trans hT.2⟩).mono ?_
  rintro e w2 ⟨hb2, hpost⟩
  have hB2 : Below w.heap.size w w2 := (HW0.out _ _).trans (hb2.mono (HW0.out _ _).size)
  have cF : w2.cell? ⟨w1.heap.size + 1, k, none⟩ = some (.string f) := by
    refine (hb2.cell (p := ⟨w1.heap.size + 1, k, none⟩) (by show _ < _; rw [Lib.bytesWorld_size]; simp)).trans ((Lib.bytesWorld_old _ _ _ ⟨w1.heap.size + 1, k, none⟩ (by simp)).trans ?_)
    have hn := World.alloc_heap_new (w1.alloc (.cells (bindsT.map Value.string).toArray 9)) (.cells (bindsF.map Value.string).toArray 9)
    rw [World.size_alloc] at hn
    have e : (bindsF.map Value.string)[k]? = some (.string f) := by
      rw [List.getElem?_eq_getElem (by simpa [bindsF] using hk12)]
      exact congrArg some hf1
    have hc : ((w1.alloc (.cells (bindsT.map Value.string).toArray 9)).alloc (.cells (bindsF.map Value.string).toArray 9)).cell? ⟨w1.heap.size + 1, k, none⟩ = some (.string f) := by
      simp only [World.cell?, hn]
      simpa using e
    exact hc
  clear hb2
  have HB2 := Lib.hid hB2
  clear hB2
  have HRow := Lib.hid hf1
  have hk2 : r % 12 = (k : Int) := by omega
  have l2 : w1.heap.size + 1 < w2.heap.size := World.block_lt_of_cell? _ _ cF
  clear ht1 hf1 hr
  by_cases hf0 : f.size = 0
  · have hr := HRest.out
    rw [if_pos hf0] at hr
    have hz : ((f.size : Int) == 0) = true := by rw [hf0]; rfl
    rcases hpost with ⟨p, b, h, _⟩ | ⟨_, h, _⟩ | ⟨p, lim, b, _, _, rfl, _⟩
    · cases h
    · rw [h] at hr; cases hr
    · clear hr
      unfold errVal
      go_wp2
      go_ret
      exact ⟨rfl, HB2.out.alloc (by have := HB2.out.size; omega) _⟩
  · have hr := HRest.out
    rw [if_neg hf0] at hr
    simp only [Bool.and_eq_true] at hr
    obtain ⟨⟨⟨⟨pf, rf⟩, n1, n2⟩, m1, m2⟩, hsame⟩ := hr
    have hz : ((f.size : Int) == 0) = false := beq_false_of_ne (by omega)
    rcases hpost with ⟨p, b, h, _⟩ | ⟨_, _, p1, c1, p2, c2, p3, c3, rfl, hx⟩ | ⟨p, lim, b, _, h, _⟩
    · cases h
    · have HX := Lib.hid hx
      clear hx
      unfold exV
      go_wp2_with fail
      have hW3 : ∀ o1 : Obj, Below w.heap.size w (Lib.bytesWorld (w2.alloc o1) 5 f) := fun o1 => (HB2.out.alloc (by have := HB2.out.size; omega) o1).trans ((conv_below _ f).mono (by have := HB2.out.size; simp; omega))
      have HW3 := Lib.hid hW3
      clear hW3
      refine (exprPlain_any _ f (by omega) pf rf aX q _ (conv_bytes' (g := w2.heap.size + 1) _ f _ (by simp)) (((HW3.out _).cell (p := ⟨2, 0, none⟩) (World.block_lt_of_cell? _ _ hX)).trans hX) ⟨((HW3.out _).cell (p := ⟨0, 0, none⟩) (World.block_lt_of_cell? _ _ hT.1)).trans hT.1, ((HW3.out _).cell (p := ⟨1, 0, none⟩) (World.block_lt_of_cell? _ _ hT.2)).trans hT.2⟩).mono ?_
      rintro e w3 ⟨hb3, hpost3⟩
      rcases hpost3 with ⟨p, b, h, _⟩ | ⟨_, _, q1, d1, q2, d2, q3, d3, rfl, hy⟩ | ⟨p, lim, b, _, h, _⟩
      · cases h
      · have kE := (hb3.block w2.heap.size (by rw [Lib.bytesWorld_size]; simp; omega)).trans ((Lib.bytesWorld_at_old _ _ _ _ (by simp)).trans (World.alloc_heap_new w2 (.cells #[.int .i64 (readE t).1.kind, .int .i64 (readE t).1.pos, .string (readE t).1.name, .int .i64 (readE t).1.num, .slice p1 (readE t).1.kids.length c1, .slice p2 (readE t).1.alts.length c2, .slice p3 (readE t).1.binds.length c3] 28)))
        obtain ⟨g0, g1, g2, g3, g4, g5, g6⟩ := cells7 kE
        have l3 : w2.heap.size < w3.heap.size := (Array.getElem?_eq_some_iff.1 kE).1
        have hB3 : Below w.heap.size w w3 := (HW3.out _).trans (hb3.mono (HW3.out _).size)
        have hXX := HX.out.keep (fun k o _ ho => (hb3.block k (by have := (Array.getElem?_eq_some_iff.1 ho).1; rw [Lib.bytesWorld_size]; simp; omega)).trans ((Lib.bytesWorld_at_old (w2.alloc (.cells #[.int .i64 (readE t).1.kind, .int .i64 (readE t).1.pos, .string (readE t).1.name, .int .i64 (readE t).1.num, .slice p1 (readE t).1.kids.length c1, .slice p2 (readE t).1.alts.length c2, .slice p3 (readE t).1.binds.length c3] 28)) _ _ k (by have := (Array.getElem?_eq_some_iff.1 ho).1; simp; omega)).trans ((Below.heap_alloc w2 _ k (Array.getElem?_eq_some_iff.1 ho).1).trans ho)))
        have HS := Lib.hid (fun (W : World) (kk : Below w3.heap.size w3 W) => same_any (readE t).1 (readE f).1 m1 m2 _ _ p1 p2 p3 q1 q2 q3 c1 c2 c3 d1 d2 d3 W (hXX.keep (keep_of_below kk)) (hy.keep (keep_of_below kk)))
        rw [hsame] at HS
        have HB3 := Lib.hid hB3
        clear hXX hy hb3 hB3 kE
        simp only [exV] at HS ⊢
        go_wp2_with (go_at_call 6; refine (HS.out _ ((Below.refl _ w3).alloc (Nat.le_refl _) _)).mono ?_; rintro e w4 ⟨rfl, hb4⟩; have HB4 := Lib.hid hb4; clear hb4)
        go_ret
        exact ⟨rfl, (HB3.out.alloc (by have := HB3.out.size; omega) _).trans (HB4.out.mono (by have := HB3.out.size; simp; omega))⟩
      · rw [h] at n2; cases n2
    · rw [h] at n1; cases n1
end Go.Proofs.YtdooeghicdaakaaGreatDoor
