/- scope.Free of a variable. -/
import Derived.Test.YtlpifioneafciaaGrMaps
import Derived.Laws.EntriesVeiled
namespace Go.Proofs.Ytlpifioneafciaa
open Go.RowKit Go.Maps Go.Lib
attribute [local go_sem] Oper.semAt_some

set_option maxRecDepth 100000 in
set_option maxHeartbeats 8000000 in
theorem add_any {M m : Nat} {S S' : ByteArray → Bool} {nm : ByteArray} (w : World) (h : SetV M m S w) (hm : m < 1000000) (hn : nm.size ≤ 1000000) (hS : ∀ k, S' k = if k = nm then true else S k) :
    Calls Try.prog 21 #[.map (some M), .string nm] w fun e w' => e = .returned (.bool (!S nm)) ∧ SetV M (m + 1) S' w' ∧ (∀ k, k < w.heap.size → k ≠ M → w'.heap[k]? = w.heap[k]?) ∧ ∀ B, B ≤ M → Below B w w' := by
  have hlk := h.look nm (by unfold maxLen; omega)
  have hal := h.below (below_allocG w (.cells #[] 77))
  obtain ⟨w6, hup, hM6, hg6⟩ := hal.upd (S' := S') (by unfold maxLen; omega) nm (by unfold maxLen; omega) hS
  have H6 := Lib.hid (show SetV M (m + 1) S' w6 ∧ (∀ k, k < w.heap.size → k ≠ M → w6.heap[k]? = w.heap[k]?) ∧ ∀ B, B ≤ M → Below B w w6 from ⟨hM6, fun k hk hne => (hg6.block k (by simp; omega) (by simp; exact fun e => hne e)).trans ((below_allocG w _).block k hk), fun B hB => by
    have hlt := h.lt
    exact ((Below.refl B w).alloc (by omega) _).grown hg6 (by simp; omega) (fun j e => by cases e; exact hB)⟩)
  clear h hal hM6 hg6 hS
  go_enter Try.func21, Try.ntmps21
  go_wp2_with fail
  go_ret
  exact ⟨rfl, H6.out⟩
theorem Try.infoStr0 : (Try.prog.info? 9).map (fun i => (i.zero, i.size, i.bytes)) = some (some (.string ⟨#[]⟩), 1, 16) := by kernel_rfl
set_option maxRecDepth 100000 in
set_option maxHeartbeats 8000000 in
theorem meet_anyF {t f Ms : Nat} {ps nn : Int} {nm : ByteArray} {vl va vb : Value} (w : World) (hn : nm.size ≤ 1000000) (ht : w.heap[t]? = some (.cells #[.map (some Ms)] 62 (0, 0))) (hf : w.heap[f]? = some (.cells #[.slice none 0 0] 37 (0, 0))) (hs : SetV Ms 0 (fun _ => false) w) :
    Calls Try.prog 20 #[.agg #[.int .i64 1, .int .i64 ps, .string nm, .int .i64 nn, vl, va, vb], .pointer (some ⟨t, 0, none⟩), .pointer (some ⟨f, 0, none⟩)] w fun e w' => e = .returned (.tuple #[]) ∧ (∃ g cap, w'.heap[f]? = some (.cells #[.slice (some ⟨g, 0, none⟩) 1 cap] 37 (0, 0)) ∧ w'.cell? ⟨g, 0, none⟩ = some (.string nm) ∧ w.heap.size ≤ g) ∧ ∀ B, B ≤ Ms → B ≤ f → Below B w w' := by
  obtain ⟨i0, hi0, hz0, hz1, hz2⟩ := info_parts Try.infoStr0
  obtain ⟨V, hV⟩ : ∃ V, w.alloc (.cells #[.int .i64 1, .int .i64 ps, .string nm, .int .i64 nn, vl, va, vb] 36) = V := ⟨_, rfl⟩
  have hBV : Below w.heap.size w V := by rw [← hV]; exact below_allocG w _
  have hv2 : V.heap[w.heap.size]? = some (.cells #[.int .i64 1, .int .i64 ps, .string nm, .int .i64 nn, vl, va, vb] 36 (0, 0)) := by
    rw [← hV]
    show (w.heap.push _)[w.heap.size]? = _
    simp
  have hsz : V.heap.size = w.heap.size + 1 := by rw [← hV]; simp
  have htV := (hBV.block t (heap_at ht)).trans ht
  have hfV := (hBV.block f (heap_at hf)).trans hf
  have hsV := hs.below hBV
  have e0 : V.cell? ⟨w.heap.size, 0, none⟩ = some (.int .i64 1) := by rw [Lib.cell_of_heap hv2]; rfl
  have e2 : V.cell? ⟨w.heap.size, 2, none⟩ = some (.string nm) := by rw [Lib.cell_of_heap hv2]; rfl
  have t0 : V.cell? ⟨t, 0, none⟩ = some (.map (some Ms)) := by rw [Lib.cell_of_heap htV]; rfl
  have hA := add_any (S' := fun k => if k = nm then true else false) V hsV (by omega) hn (fun k => rfl)
  rw [show (!(fun _ : ByteArray => false) nm) = true from rfl] at hA
  have HA := Lib.hid hA
  have hsM := hsV.ne hfV
  have hsM2 := hsV.ne hv2
  have hlt := hsV.lt
  have hff := heap_at hfV
  have hltM := hs.lt
  have hff0 := heap_at hf
  have HH := Lib.hid (And.intro hBV (And.intro hfV hv2))
  clear hA hs hsV ht hf htV hfV hv2 hBV
  subst hV
  go_enter Try.func20, Try.ntmps20
  go_wp2_with (go_at_call 21; fail)
  refine HA.out.mono ?_
  rintro e W ⟨rfl, _, hk, hB⟩
  have hfW := (hk f hff (Ne.symm hsM)).trans HH.out.2.1
  have heW := (hk w.heap.size (by omega) (Ne.symm hsM2)).trans HH.out.2.2
  have f0 : W.cell? ⟨f, 0, none⟩ = some (.slice none 0 0) := by rw [Lib.cell_of_heap hfW]; rfl
  have g2 : W.cell? ⟨w.heap.size, 2, none⟩ = some (.string nm) := by rw [Lib.cell_of_heap heW]; rfl
  have HW := Lib.hid (And.intro hfW hB)
  have hsz2 := (hB 0 (Nat.zero_le _)).size
  clear hk hB hfW heW HA e0 e2 t0
  go_wp2_with (at_builtin; refine wpList_append_own_at _ rfl _ _ 37 rfl W.heap.size 9 i0 (.string ⟨#[]⟩) 1 16 Try.underlying37 hi0 hz0 hz1 hz2 rfl (by decide) _ _ _ rfl (World.ownsRow_nil _ _ _ _) ⟨W.heap.size, 0, none⟩ 1 1 [.string nm] rfl rfl ?c2 (by simp [Value.oneCell']) ?c3 ?c4 ?c5 ?_)
  case c2 => exact frz_oneI _ _ _
  case c3 => unfold maxLen; omega
  case c4 => omega
  case c5 => simp
  intro v4 W4 hown4 hgr4 _ hat4
  have hW4 := below_allocG W (.cells #[.string nm] 9)
  have hB4 : Below W.heap.size W W4 := hW4.grown hgr4 (by simp) (fun j e => by cases e)
  have hf4 := (hB4.block f (by omega)).trans HW.out.1
  have f4 : W4.cell? ⟨f, 0, none⟩ = some (.slice none 0 0) := by rw [Lib.cell_of_heap hf4]; rfl
  have f5 := Lib.frozen_of_heap hf4 0
  rcases id hown4.2 with ⟨_, e⟩ | ⟨g, cap, cur, rfl, hg0, hgq, hgc, _, hgs, hgt⟩
  · cases e
  have hgl := heap_at hgq
  have HF := Lib.hid (show ∃ g' cap', (W4.setCell ⟨f, 0, none⟩ (.slice (some ⟨g, 0, none⟩) 1 cap)).heap[f]? = some (.cells #[.slice (some ⟨g', 0, none⟩) 1 cap'] 37 (0, 0)) ∧ (W4.setCell ⟨f, 0, none⟩ (.slice (some ⟨g, 0, none⟩) 1 cap)).cell? ⟨g', 0, none⟩ = some (.string nm) ∧ w.heap.size ≤ g' from ⟨g, cap, by rw [blk_setG hf4]; rfl, by
    have hgf : g ≠ f := by omega
    rw [World.cell?_of_block (a := ⟨g, 0, none⟩) (heap_set W4 ⟨f, 0, none⟩ _ g hgf), World.ownsRow.cellAt hown4 0 (by decide)]
    rfl, by omega⟩)
  have HB4 := Lib.hid (show ∀ B, B ≤ Ms → B ≤ f → Below B w (W4.setCell ⟨f, 0, none⟩ (.slice (some ⟨g, 0, none⟩) 1 cap)) from fun B h1 h2 => ((((below_allocG w _).mono (by omega)).trans (HW.out.2 B h1)).trans (hB4.mono (by omega))).setCell (p := ⟨f, 0, none⟩) h2 _)
  clear hown4 hgr4 hat4 hW4 hB4 hf4 hgq hgc hgs hgt HW
  go_wp2
  go_end0
  exact ⟨rfl, HF.out, HB4.out⟩
set_option maxRecDepth 100000 in
set_option maxHeartbeats 8000000 in
theorem exprv_any {p t f Mb Ms : Nat} {X : Value} {ps nn : Int} {nm : ByteArray} {vl va vb : Value} (w : World) (hn : nm.size ≤ 1000000) (hp : w.heap[p]? = some (.cells #[.map (some Mb), .func (.func 20) #[] #[.pointer (some ⟨t, 0, none⟩), .pointer (some ⟨f, 0, none⟩)], X] 68 (0, 0))) (ht : w.heap[t]? = some (.cells #[.map (some Ms)] 62 (0, 0))) (hf : w.heap[f]? = some (.cells #[.slice none 0 0] 37 (0, 0)))
    (hb : MapV Mb 0 (fun _ => none) w) (hs : SetV Ms 0 (fun _ => false) w) :
    Calls Try.prog 22 #[.pointer (some ⟨p, 0, none⟩), .agg #[.int .i64 1, .int .i64 ps, .string nm, .int .i64 nn, vl, va, vb]] w fun e w' => e = .returned (.tuple #[]) ∧ (∃ g cap, w'.heap[f]? = some (.cells #[.slice (some ⟨g, 0, none⟩) 1 cap] 37 (0, 0)) ∧ w'.cell? ⟨g, 0, none⟩ = some (.string nm) ∧ w.heap.size ≤ g) ∧ ∀ B, B ≤ Ms → B ≤ f → Below B w w' := by
  obtain ⟨V, hV⟩ : ∃ V, (w.alloc (.cells #[.pointer (some ⟨p, 0, none⟩)] 79)).alloc (.cells #[.int .i64 1, .int .i64 ps, .string nm, .int .i64 nn, vl, va, vb] 36) = V := ⟨_, rfl⟩
  have hBV : Below w.heap.size w V := by rw [← hV]; exact ((Below.refl _ w).alloc (Nat.le_refl _) _).alloc (by simp) _
  have hv1 : V.heap[w.heap.size]? = some (.cells #[.pointer (some ⟨p, 0, none⟩)] 79 (0, 0)) := by
    rw [← hV]
    show ((w.heap.push _).push _)[w.heap.size]? = _
    rw [Array.getElem?_push, if_neg (by simp), Array.getElem?_push, if_pos rfl]
  have hv2 : V.heap[w.heap.size + 1]? = some (.cells #[.int .i64 1, .int .i64 ps, .string nm, .int .i64 nn, vl, va, vb] 36 (0, 0)) := by
    rw [← hV]
    show ((w.heap.push _).push _)[w.heap.size + 1]? = _
    rw [Array.getElem?_push, if_pos (by simp)]
  have hlk := fun q => (hb.below (w' := V.drewN q) (below_drewN hBV q)).look1 nm (by unfold maxLen; omega)
  have x0 : V.cell? ⟨w.heap.size, 0, none⟩ = some (.pointer (some ⟨p, 0, none⟩)) := by rw [Lib.cell_of_heap hv1]; rfl
  have e0 : V.cell? ⟨w.heap.size + 1, 0, none⟩ = some (.int .i64 1) := by rw [Lib.cell_of_heap hv2]; rfl
  have e2 : V.cell? ⟨w.heap.size + 1, 2, none⟩ = some (.string nm) := by rw [Lib.cell_of_heap hv2]; rfl
  have hpV := (hBV.block p (heap_at hp)).trans hp
  have p0 : V.cell? ⟨p, 0, none⟩ = some (.map (some Mb)) := by rw [Lib.cell_of_heap hpV]; rfl
  have p1 : V.cell? ⟨p, 1, none⟩ = some (.func (.func 20) #[] #[.pointer (some ⟨t, 0, none⟩), .pointer (some ⟨f, 0, none⟩)]) := by rw [Lib.cell_of_heap hpV]; rfl
  simp only [Option.getD_none] at hlk
  have HV := Lib.hid hV
  clear hV
  go_enter Try.func22, Try.ntmps22
  go_wp2_with fail
  rw [HV.out]
  go_quiet (fail)
  have hBV2 : Below w.heap.size w (V.drewN nq) := below_drewN hBV nq
  have hv1' : (V.drewN nq).heap[w.heap.size]? = some (.cells #[.pointer (some ⟨p, 0, none⟩)] 79 (0, 0)) := hv1
  have hv2' : (V.drewN nq).heap[w.heap.size + 1]? = some (.cells #[.int .i64 1, .int .i64 ps, .string nm, .int .i64 nn, vl, va, vb] 36 (0, 0)) := hv2
  have hpV' := (hBV2.block p (heap_at hp)).trans hp
  clear x0 e0 e2 p0 p1 hlk hv1 hv2 hpV hBV
  generalize V.drewN nq = V2 at *
  have x0 : V2.cell? ⟨w.heap.size, 0, none⟩ = some (.pointer (some ⟨p, 0, none⟩)) := by rw [Lib.cell_of_heap hv1']; rfl
  have e0 : V2.cell? ⟨w.heap.size + 1, 0, none⟩ = some (.int .i64 1) := by rw [Lib.cell_of_heap hv2']; rfl
  have e1 : V2.cell? ⟨w.heap.size + 1, 1, none⟩ = some (.int .i64 ps) := by rw [Lib.cell_of_heap hv2']; rfl
  have e2 : V2.cell? ⟨w.heap.size + 1, 2, none⟩ = some (.string nm) := by rw [Lib.cell_of_heap hv2']; rfl
  have e3 : V2.cell? ⟨w.heap.size + 1, 3, none⟩ = some (.int .i64 nn) := by rw [Lib.cell_of_heap hv2']; rfl
  have e4 : V2.cell? ⟨w.heap.size + 1, 4, none⟩ = some vl := by rw [Lib.cell_of_heap hv2']; rfl
  have e5 : V2.cell? ⟨w.heap.size + 1, 5, none⟩ = some va := by rw [Lib.cell_of_heap hv2']; rfl
  have e6 : V2.cell? ⟨w.heap.size + 1, 6, none⟩ = some vb := by rw [Lib.cell_of_heap hv2']; rfl
  have p1 : V2.cell? ⟨p, 1, none⟩ = some (.func (.func 20) #[] #[.pointer (some ⟨t, 0, none⟩), .pointer (some ⟨f, 0, none⟩)]) := by rw [Lib.cell_of_heap hpV']; rfl
  clear hpV'
  have hM := meet_anyF (ps := ps) (nn := nn) (vl := vl) (va := va) (vb := vb) V2.drew hn ((hBV2.block t (heap_at ht)).trans ht) ((hBV2.block f (heap_at hf)).trans hf) (hs.below (hBV2.drew))
  have HM := Lib.hid hM
  have hszV := hBV2.size
  have HB := Lib.hid hBV2
  have hltM := hs.lt
  have hff := heap_at hf
  clear hM hb hs hp ht hf hv1' hv2' hBV2
  go_wp2_with fail
  go_region_with (go_at_call 20; with_reducible refine HM.out.mono ?_; rintro e w6 ⟨rfl, ⟨g6, cap6, hg6, hc6, hl6⟩, hb6⟩)
  all_goals
    go_wp2
    go_end0
    refine ⟨rfl, ⟨g6, cap6, hg6, hc6, ?_⟩, fun B h1 h2 => ?_⟩
    · have : V2.heap.size ≤ g6 := hl6
      omega
    · exact (HB.out.mono (by omega)).trans ((Below.refl B V2).drew.trans (hb6 B h1 h2))
theorem alloc_get (w : World) (o : Obj) : (w.alloc o).heap[w.heap.size]? = some o := by
  show (w.heap.push o)[w.heap.size]? = _
  simp
set_option maxRecDepth 100000 in
set_option maxHeartbeats 8000000 in
theorem freev_any {ps nn : Int} {nm : ByteArray} {vl va vb : Value} (w : World) (hn : nm.size ≤ 1000000) :
    Calls Try.prog 16 #[.agg #[.int .i64 1, .int .i64 ps, .string nm, .int .i64 nn, vl, va, vb]] w fun e w' => (∃ g cap, e = .returned (.slice (some ⟨g, 0, none⟩) 1 cap) ∧ w'.cell? ⟨g, 0, none⟩ = some (.string nm) ∧ w.heap.size ≤ g) ∧ Below w.heap.size w w' := by
  have hmm : ∀ (T : TypeId) (W : World), (Instr.makeMap T none).run Try.prog W = .ok (.map (some W.heap.size)) (W.alloc (.map #[] 0)) := fun _ _ => rfl
  obtain ⟨w1, h1⟩ : ∃ w1, w.alloc (.cells #[.int .i64 1, .int .i64 ps, .string nm, .int .i64 nn, vl, va, vb] 36) = w1 := ⟨_, rfl⟩
  have s1 : w1.heap.size = w.heap.size + 1 := by rw [← h1]; simp
  have b1 : Below w.heap.size w w1 := by rw [← h1]; exact below_allocG w _
  obtain ⟨w2, h2⟩ : ∃ w2, w1.alloc (.cells #[.slice none 0 0] 37) = w2 := ⟨_, rfl⟩
  have s2 : w2.heap.size = w.heap.size + 1 + 1 := by rw [← h2]; simp [s1]
  have b2 : Below w1.heap.size w1 w2 := by rw [← h2]; exact below_allocG w1 _
  have g2 := alloc_get w1 (.cells #[.slice none 0 0] 37)
  rw [h2, s1] at g2
  obtain ⟨w3, h3⟩ : ∃ w3, w2.alloc (.map #[] 0) = w3 := ⟨_, rfl⟩
  have s3 : w3.heap.size = w.heap.size + 1 + 1 + 1 := by rw [← h3]; simp [s2]
  have b3 : Below w2.heap.size w2 w3 := by rw [← h3]; exact below_allocG w2 _
  have m3 := SetV.start w2
  rw [h3, s2] at m3
  obtain ⟨w4, h4⟩ : ∃ w4, w3.alloc (.cells #[.map (some (w.heap.size + 1 + 1))] 62) = w4 := ⟨_, rfl⟩
  have s4 : w4.heap.size = w.heap.size + 1 + 1 + 1 + 1 := by rw [← h4]; simp [s3]
  have b4 : Below w3.heap.size w3 w4 := by rw [← h4]; exact below_allocG w3 _
  have g4 := alloc_get w3 (.cells #[.map (some (w.heap.size + 1 + 1))] 62)
  rw [h4, s3] at g4
  obtain ⟨w5, h5⟩ : ∃ w5, w4.alloc (.map #[] 0) = w5 := ⟨_, rfl⟩
  have s5 : w5.heap.size = w.heap.size + 1 + 1 + 1 + 1 + 1 := by rw [← h5]; simp [s4]
  have b5 : Below w4.heap.size w4 w5 := by rw [← h5]; exact below_allocG w4 _
  have m5 := MapV.start w4
  rw [h5, s4] at m5
  obtain ⟨w6, h6⟩ : ∃ w6, w5.alloc (.cells #[.map (some (w.heap.size + 1 + 1 + 1 + 1)), .func (.func 20) #[] #[.pointer (some ⟨w.heap.size + 1 + 1 + 1, 0, none⟩), .pointer (some ⟨w.heap.size + 1, 0, none⟩)], .func (.func 19) #[] #[]] 68) = w6 := ⟨_, rfl⟩
  have b6 : Below w5.heap.size w5 w6 := by rw [← h6]; exact below_allocG w5 _
  have g6 := alloc_get w5 (.cells #[.map (some (w.heap.size + 1 + 1 + 1 + 1)), .func (.func 20) #[] #[.pointer (some ⟨w.heap.size + 1 + 1 + 1, 0, none⟩), .pointer (some ⟨w.heap.size + 1, 0, none⟩)], .func (.func 19) #[] #[]] 68)
  rw [h6, s5] at g6
  have b56 := b6
  have b46 := b5.trans (b56.mono b5.size)
  have b36 := b4.trans (b46.mono b4.size)
  have b26 := b3.trans (b36.mono b3.size)
  have b16 := b2.trans (b26.mono b2.size)
  have b06 := b1.trans (b16.mono b1.size)
  have HE := Lib.hid (exprv_any (ps := ps) (nn := nn) (vl := vl) (va := va) (vb := vb) w6 hn g6 ((b46.block _ (by omega)).trans g4) ((b26.block _ (by omega)).trans g2) (m5.below b56) (m3.below b36))
  have HB := Lib.hid b06
  have hsz := b06.size
  have HW := Lib.hid (And.intro h1 (And.intro h2 (And.intro h3 (And.intro h4 (And.intro h5 h6)))))
  clear h1 h2 h3 h4 h5 h6 b1 b2 b3 b4 b5 b6 b16 b26 b36 b46 b56 b06 m3 m5 g2 g4 g6
  go_enter Try.func16, Try.ntmps16
  go_wp2_with (go_at_call 22; fail)
  rw [HW.out.1, HW.out.2.1, HW.out.2.2.1, HW.out.2.2.2.1, HW.out.2.2.2.2.1, HW.out.2.2.2.2.2]
  refine HE.out.mono ?_
  rintro e W ⟨rfl, ⟨g, cap, hf, hc, hl⟩, hb⟩
  have f0 : W.cell? ⟨w.heap.size + 1, 0, none⟩ = some (.slice (some ⟨g, 0, none⟩) 1 cap) := by rw [Lib.cell_of_heap hf]; rfl
  have HC := Lib.hid hc
  have HBW := Lib.hid (HB.out.trans (hb _ (by omega) (by omega)))
  clear hf hc hb HE HW
  go_wp2
  go_ret
  exact ⟨⟨g, cap, rfl, HC.out, by omega⟩, HBW.out⟩
end Go.Proofs.Ytlpifioneafciaa
