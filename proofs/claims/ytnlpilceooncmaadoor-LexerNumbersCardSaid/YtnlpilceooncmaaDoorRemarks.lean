import Derived.Test.YtnlpilceooncmaaDoorBytes
import Derived.Test.YtnlpilceooncmaaDoorRunsMk
namespace Go.Proofs.YtnlpilceooncmaaDoor
open Go.RowKit

theorem piece_eq (s : ByteArray) (p n : Nat) (r : List UInt8) (h : (s.data.toList.drop p).take n = r) : (s.extract p s.size).extract 0 n = ⟨r.toArray⟩ := by
  apply ByteArray.ext
  apply Array.toList_inj.1
  rw [Lib.extract_data, drop_data, List.drop_zero, Nat.sub_zero]
  exact h
def txtTwo : List UInt8 := [97, 32, 45, 45, 62, 98, 10, 45, 62]
def toksTwo : List Tok := [⟨1, 0, 1, 0⟩, ⟨6, 7, 2, 0⟩]
theorem runsTwo : Runs txtTwo (skipTo txtTwo 0) toksTwo none := ⟨10, by decide, by kernel_rfl⟩
theorem grows_block {w : World} {base : Nat} {v : Value} {l : List UInt8} (h : Grows w base v l) {j : Nat} (e : v.ownBlock = some j) : base ≤ j := by
  rcases h.cells with ⟨rfl, _⟩ | ⟨g, cap, _, hg, _, _, hv, _⟩
  · simp [Value.ownBlock] at e
  · rw [hv] at e; cases e; exact hg

set_option maxHeartbeats 2000000 in
set_option maxRecDepth 100000 in
theorem remarks_any (v : Value) (s : ByteArray) (aL : Addr) (w : World) (hv : BytesAt w v s) (hE : w.cell? ⟨0, 0, none⟩ = some (errL aL)) :
    Calls Tryd.prog 8 #[v] w fun e w' => e = .returned (.bool true) ∧ Below w.heap.size w w' := by
  obtain ⟨a, cap, rfl, ha⟩ := hv
  have kc := fun (w : World) (C : Array Value) (n c : Nat) => Lib.run_convert_bytes_const (P := Tryd.prog) w 22 5 C n c Tryd.underlying22 Tryd.underlying5
  have HE := Lib.hid hE
  by_cases hbig : 60 < s.size
  · go_enter Tryd.func8, Tryd.ntmps8
    go_wp2_with (go_at_call 9; refine (first_any aL _ HE.out).mono ?_; rintro e w1 ⟨rfl, hb1⟩)
    go_ret
    exact ⟨rfl, hb1⟩
  · have hg := World.block_lt_of_cell? _ _ hE
    go_enter Tryd.func8, Tryd.ntmps8
    go_wp2_with (go_at_call 9; refine (first_any aL _ HE.out).mono ?_; rintro e w1 ⟨rfl, hb1⟩)
    have hB1 : Below w.heap.size w (w1.alloc (.cells #[.int .u8 120, .int .u8 32, .int .u8 45, .int .u8 45] 5 (4, 5))) := hb1.alloc hb1.size _
    have hG1 : Grows (w1.alloc (.cells #[.int .u8 120, .int .u8 32, .int .u8 45, .int .u8 45] 5 (4, 5))) w.heap.size (.slice (some ⟨w1.heap.size, 0, none⟩) 4 4) [120, 32, 45, 45] :=
      .inr ⟨w1.heap.size, (4, 5), rfl, hb1.size, World.alloc_heap_new w1 _⟩
    go_loopw [4, 5] (fun vt vi wr => ∃ (k : Nat) (l : List UInt8), vi = .int .i64 k ∧ k ≤ s.size ∧ Hid (l = [120, 32, 45, 45] ++ filt (s.data.toList.take k)) ∧ Grows wr w.heap.size vt l ∧ Below w.heap.size w wr) (fun _ vi _ => s.size - (intOf vi).toNat)
    case atStart => exact ⟨0, [120, 32, 45, 45], rfl, Nat.zero_le _, Lib.hid (by simp [filt]), hG1, hB1⟩
    case round =>
      obtain ⟨k, l, rfl, hk, hl, hG, hB⟩ := hrel
      have hsB := hB.size
      by_cases hlt : k < s.size
      · rcases ha with h0 | ⟨b, o, rfl, hbytes⟩
        · omega
        · have hc := hbytes k hlt
          have hbl := World.block_lt_of_cell? _ _ hc
          have hcr := (hB.cell (p := ⟨b, o + k, none⟩) hbl).trans hc
          by_cases h10 : s[k] = 10
          · have hne : ((s[k].toNat : Int) != 10) = false := by rw [h10]; decide
            have T : Hid (filt (s.data.toList.take (k + 1)) = filt (s.data.toList.take k)) := Lib.hid (by rw [List.take_succ_eq_append_getElem (by rw [length_data]; exact hlt), filt_snoc, getElem_data s k hlt, h10]; simp)
            clear h10 hc hbytes
            go_wp2
            go_roundw
            case rel => exact ⟨k + 1, l, by go_num, by omega, Lib.hid (by rw [T.out]; exact hl.out), hG, hB⟩
            case measure => simp [intOf]; omega
          · have hne : ((s[k].toNat : Int) != 10) = true := toNat_ne _ 10 h10
            have T : Hid (filt (s.data.toList.take (k + 1)) = filt (s.data.toList.take k) ++ [s[k]]) := Lib.hid (by rw [List.take_succ_eq_append_getElem (by rw [length_data]; exact hlt), filt_snoc, getElem_data s k hlt]; simp [h10])
            have hll : l.length ≤ 64 := by
              have := hl.out
              have h2 := List.length_filter_le (fun c : UInt8 => c != 10) (s.data.toList.take k)
              have h3 : (s.data.toList.take k).length ≤ k := List.length_take_le _ _
              rw [this]; unfold filt; simp at h2 h3 ⊢; omega
            obtain ⟨v', w2, hr, hG2, hgr⟩ := app_slice (hG.later ((Below.refl _ wr).alloc (Nat.le_refl _) (.cells #[.int .u8 (s[k].toNat : Int)] 5))) (by simp; omega) ⟨wr.heap.size, 0, none⟩ [s[k]] 1 (cell_one_new _ _ _) (by simp) (by simp; omega)
            have hB2 := (hB.alloc hsB (.cells #[.int .u8 (s[k].toNat : Int)] 5)).grown hgr (by simp; omega) (fun j e => (grows_block hG e))
            have Hr := Lib.hid hr; clear hr hgr
            clear h10 hc hbytes
            go_wp2_with (at_builtin; refine Lib.wpList_append_run _ rfl _ _ 22 22 rfl _ _ rfl rfl _ _ Hr.out ?_)
            go_roundw
            case rel => exact ⟨k + 1, l ++ [s[k]], by go_num, by omega, Lib.hid (by rw [T.out, hl.out, List.append_assoc]), hG2, hB2⟩
            case measure => simp [intOf]; omega
      · obtain rfl : k = s.size := by omega
        have hl2 : l = [120, 32, 45, 45] ++ filt s.data.toList := by rw [hl.out, List.take_of_length_le (by rw [length_data]; exact Nat.le_refl _)]
        have hfl : (filt s.data.toList).length ≤ 60 := by
          have := List.length_filter_le (fun c : UInt8 => c != 10) s.data.toList
          rw [length_data] at this
          unfold filt; omega
        obtain ⟨v', w2, hr, hG2, hgr⟩ := app_string hG hsB ⟨#[10, 121, 32, 45, 45, 32, 62, 32, 122]⟩ (by decide) (by rw [hl2]; simp; have : (ByteArray.mk #[10, 121, 32, 45, 45, 32, 62, 32, 122]).size = 9 := rfl; omega)
        have hB2 := hB.grown hgr hsB (fun j e => (grows_block hG e))
        have hby : BytesAt w2 v' ⟨(textR s.data.toList).toArray⟩ := by
          have := hG2.bytes
          rwa [hl2] at this
        have Hr := Lib.hid hr; clear hr hgr hG2 hG hG1 hB1 hl hl2
        have hE2 := (hB2.cell (p := ⟨0, 0, none⟩) hg).trans hE
        have HE2 := Lib.hid hE2; clear hE2 hE
        go_wp2_with (at_builtin; refine Lib.wpList_append_run _ rfl _ _ 22 9 rfl _ _ rfl rfl _ _ Hr.out ?_)
        have hsz : (⟨(textR s.data.toList).toArray⟩ : ByteArray).size ≤ 20000 := by
          have := textR_length s.data.toList
          show (textR s.data.toList).toArray.size ≤ _
          simp; omega
        refine (split_any v' ⟨(textR s.data.toList).toArray⟩ hsz aL _ none (runsR s.data.toList) _ hby HE2.out).mono ?_
        rintro e w3 ⟨hb3, (⟨_, u, rfl, hrow⟩ | ⟨p, b, h, _⟩)⟩
        · rcases row_toks hrow with ⟨_, h⟩ | ⟨g, cap1, rfl, hg1, hg2, hcap1, ht⟩
          · cases h
          · have h2 : w3.cell? ⟨g, 2, none⟩ = some (.string ⟨#[120]⟩) := (ht 0 (by simp)).2.2.1.trans (by rw [piece_eq _ _ _ [120]]; simp [textR])
            have h6 : w3.cell? ⟨g, 6, none⟩ = some (.string ⟨#[121]⟩) := (ht 1 (by simp)).2.2.1.trans (by
              rw [piece_eq _ _ _ [121]]
              show ((textR s.data.toList).drop (5 + (filt s.data.toList).length)).take 1 = _
              rw [show 5 + (filt s.data.toList).length = 4 + (filt s.data.toList).length + 1 by omega, textR_drop _ 1 (by omega)]; rfl)
            have hB3 := hB2.trans (hb3.mono hB2.size)
            have hE3 := (hB3.cell (p := ⟨0, 0, none⟩) hg).trans HE.out
            have HE3 := Lib.hid hE3; clear hE3 ht hrow hcap1
            simp only [List.length_cons, List.length_nil, Nat.zero_add, Nat.reduceAdd]
            go_wp2_with fail
            refine (split_any _ ⟨txtTwo.toArray⟩ (by decide) aL toksTwo none runsTwo _ (bytes_new w3 txtTwo (9, 10) 9 9 rfl) (first_cell HE3.out _)).mono ?_
            rintro e w4 ⟨hb4, (⟨_, u2, rfl, hrow2⟩ | ⟨p, b, h, _⟩)⟩
            · rcases row_toks hrow2 with ⟨_, h⟩ | ⟨g2, cap2, rfl, hg3, hg4, hcap2, ht2⟩
              · cases h
              · have k6 : w4.cell? ⟨g2, 6, none⟩ = some (.string ⟨#[45, 62]⟩) := (ht2 1 (by decide)).2.2.1.trans (by kernel_rfl)
                have k2 : w4.cell? ⟨g, 2, none⟩ = some (.string ⟨#[120]⟩) := (hb4.cell (p := ⟨g, 2, none⟩) (by simp; omega)).trans (first_cell h2 _)
                have k66 : w4.cell? ⟨g, 6, none⟩ = some (.string ⟨#[121]⟩) := (hb4.cell (p := ⟨g, 6, none⟩) (by simp; omega)).trans (first_cell h6 _)
                have hlen : toksTwo.length = 2 := rfl
                rw [hlen]
                clear ht2 hrow2 h2 h6 hb1
                go_wp2
                go_ret
                exact ⟨rfl, hB3.trans ((((Below.refl _ w3).alloc (Nat.le_refl _) _).trans (hb4.mono (by simp))).mono hB3.size)⟩
            · cases h
        · cases h
end Go.Proofs.YtnlpilceooncmaaDoor
