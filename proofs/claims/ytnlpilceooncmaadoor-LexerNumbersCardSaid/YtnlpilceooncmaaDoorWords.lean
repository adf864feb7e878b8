import Derived.Test.YtnlpilceooncmaaDoorRemarks
import Derived.Test.YtnlpilceooncmaaDoorWordsPlain
namespace Go.Proofs.YtnlpilceooncmaaDoor
open Go.RowKit

theorem Tryd.info3 : (Tryd.prog.info? 3).map (fun i => (i.zero, i.size, i.bytes)) = some (some (.int .i64 0), 1, 8) := by kernel_rfl

/-- The slice v holds the numbers zs. -/
def IntsAt (w : World) (v : Value) (zs : List Int) : Prop :=
  (∃ a cap, v = .slice a zs.length cap ∧ ∀ i (_ : i < zs.length), ∃ b o, a = some ⟨b, o, none⟩ ∧ ∀ j (h : j < zs.length), w.cell? ⟨b, o + j, none⟩ = some (.int .i64 zs[j])) ∧ ∀ z ∈ zs, -9223372036854775808 ≤ z ∧ z ≤ 9223372036854775807

def kOf (z : Int) : Nat := (z.tmod 20 % 20).toNat
theorem kOf_eq (z : Int) : z.tmod 20 % 20 = (kOf z : Int) := by unfold kOf; omega
theorem kOf_lt (z : Int) : kOf z < 20 := by unfold kOf; omega
theorem tmod_bd (z : Int) : -19 ≤ z.tmod 20 ∧ z.tmod 20 ≤ 19 := by
  have h1 := Int.tmod_lt_of_pos z (show (0 : Int) < 20 by decide)
  have h2 := Int.lt_tmod_of_pos z (show (0 : Int) < 20 by decide)
  omega
def intVals (ks : List Nat) : List Value := ks.map fun (k : Nat) => Value.int .i64 (k : Int)

/-- Rows of two types are two rows. -/
theorem rows_apart {w : World} {base base' : Nat} {v u : Value} {n : Nat} {xs : List Value} {l : List UInt8} (h : w.ownsRow base 3 1 v n xs) (k : Grows w base' u l) : v.ownBlock = none ∨ v.ownBlock ≠ u.ownBlock := by
  rcases h.2 with ⟨rfl, _⟩ | ⟨g, cap, cur, rfl, _, hg, _⟩
  · exact .inl rfl
  · refine .inr fun e => ?_
    have e' : u.ownBlock = some g := by rw [← e]; rfl
    rcases k with k | ⟨g', m, rfl, _, hg'⟩
    · rcases k.2 with ⟨rfl, _⟩ | ⟨g', cap', cur', rfl, _, hg', _⟩
      · simp [Value.ownBlock] at e'
      · obtain rfl : g' = g := by simpa [Value.ownBlock] using e'
        rw [hg] at hg'
        simp at hg'
    · obtain rfl : g' = g := by simpa [Value.ownBlock] using e'
      rw [hg] at hg'
      simp at hg'
theorem Grows.kept {w w' : World} {base : Nat} {v : Value} {l : List UInt8} {row : Option Nat} (h : Grows w base v l) (hg : w.grownBy w' row) (hne : v.ownBlock = none ∨ v.ownBlock ≠ row) : Grows w' base v l := by
  rcases h with h | ⟨g, m, rfl, hb, hc⟩
  · exact .inl (h.kept hg hne)
  · refine .inr ⟨g, m, rfl, hb, (hg.block g (Array.getElem?_eq_some_iff.1 hc).1 fun e => ?_).trans hc⟩
    rcases hne with hne | hne
    · simp [Value.ownBlock] at hne
    · exact hne (by rw [← e]; rfl)
theorem apart_symm {a b : Option Nat} (h : a = none ∨ a ≠ b) : b = none ∨ b ≠ a := by
  cases b with
  | none => exact .inl rfl
  | some x =>
    refine .inr fun e => ?_
    rcases h with h | h
    · rw [h] at e; cases e
    · exact h e.symm

def wTexts : Array Value := #[.string ⟨#[120]⟩, .string ⟨#[84]⟩, .string ⟨#[49, 50]⟩, .string ⟨#[39, 99, 39]⟩, .string ⟨#[61, 61]⟩, .string ⟨#[45, 62]⟩, .string ⟨#[108, 101, 116]⟩, .string ⟨#[95]⟩, .string ⟨#[61, 62]⟩, .string ⟨#[58, 58]⟩, .string ⟨#[120, 39]⟩, .string ⟨#[40]⟩, .string ⟨#[39, 92, 110, 39]⟩, .string ⟨#[60, 61]⟩, .string ⟨#[61]⟩, .string ⟨#[92]⟩, .string ⟨#[124]⟩, .string ⟨#[42]⟩, .string ⟨#[105, 110]⟩, .string ⟨#[65, 49]⟩]
def wKinds : Array Value := #[.int .i64 1, .int .i64 2, .int .i64 3, .int .i64 4, .int .i64 5, .int .i64 6, .int .i64 6, .int .i64 6, .int .i64 6, .int .i64 6, .int .i64 1, .int .i64 6, .int .i64 4, .int .i64 5, .int .i64 6, .int .i64 6, .int .i64 6, .int .i64 5, .int .i64 6, .int .i64 2]
theorem wTexts_at (k : Nat) (h : k < 20) : wTexts[k]? = some (.string ⟨(wText k).toArray⟩) := by
  match k, h with
  | 0, _ => rfl
  | 1, _ => rfl
  | 2, _ => rfl
  | 3, _ => rfl
  | 4, _ => rfl
  | 5, _ => rfl
  | 6, _ => rfl
  | 7, _ => rfl
  | 8, _ => rfl
  | 9, _ => rfl
  | 10, _ => rfl
  | 11, _ => rfl
  | 12, _ => rfl
  | 13, _ => rfl
  | 14, _ => rfl
  | 15, _ => rfl
  | 16, _ => rfl
  | 17, _ => rfl
  | 18, _ => rfl
  | 19, _ => rfl
  | n + 20, h => omega
theorem wKinds_at (k : Nat) (h : k < 20) : wKinds[k]? = some (.int .i64 (wKind k)) := by
  match k, h with
  | 0, _ => rfl
  | 1, _ => rfl
  | 2, _ => rfl
  | 3, _ => rfl
  | 4, _ => rfl
  | 5, _ => rfl
  | 6, _ => rfl
  | 7, _ => rfl
  | 8, _ => rfl
  | 9, _ => rfl
  | 10, _ => rfl
  | 11, _ => rfl
  | 12, _ => rfl
  | 13, _ => rfl
  | 14, _ => rfl
  | 15, _ => rfl
  | 16, _ => rfl
  | 17, _ => rfl
  | 18, _ => rfl
  | 19, _ => rfl
  | n + 20, h => omega
/-- The two tables lie in memory, at B and behind it. -/
def TablesAt (w : World) (B : Nat) : Prop := ∀ k, k < 20 → w.cell? ⟨B, k, none⟩ = some (.string ⟨(wText k).toArray⟩) ∧ w.cell? ⟨B + 1, k, none⟩ = some (.int .i64 (wKind k))
theorem tables_new (w : World) : TablesAt ((w.alloc (.cells wTexts 9)).alloc (.cells wKinds 3)) w.heap.size := by
  intro k hk
  have h1 : ((w.alloc (.cells wTexts 9)).alloc (.cells wKinds 3)).heap[w.heap.size]? = some (.cells wTexts 9) := (Below.heap_alloc _ _ _ (by simp)).trans (World.alloc_heap_new w _)
  have h2 : ((w.alloc (.cells wTexts 9)).alloc (.cells wKinds 3)).heap[w.heap.size + 1]? = some (.cells wKinds 3) := by
    have := World.alloc_heap_new (w.alloc (.cells wTexts 9)) (.cells wKinds 3)
    rwa [World.size_alloc] at this
  exact ⟨by simp only [World.cell?, h1]; exact wTexts_at k hk, by simp only [World.cell?, h2]; exact wKinds_at k hk⟩
theorem TablesAt.later {w w' : World} {B : Nat} (h : TablesAt w B) (hb : Below w.heap.size w w') (hB : B + 1 < w.heap.size) : TablesAt w' B := fun k hk =>
  ⟨(hb.cell (p := ⟨B, k, none⟩) (by show B < _; omega)).trans (h k hk).1, (hb.cell (p := ⟨B + 1, k, none⟩) hB).trans (h k hk).2⟩

set_option maxHeartbeats 4000000 in
set_option maxRecDepth 100000 in
theorem words_any (v : Value) (zs : List Int) (aL : Addr) (w : World) (hv : IntsAt w v zs) (hE : w.cell? ⟨0, 0, none⟩ = some (errL aL)) :
    Calls Tryd.prog 5 #[v] w fun e w' => e = .returned (.bool true) ∧ Below w.heap.size w w' := by
  obtain ⟨⟨a, cap, rfl, ha⟩, hz⟩ := hv
  have HA := Lib.hid ha; clear ha
  have HZ := Lib.hid hz; clear hz
  have HE := Lib.hid hE
  by_cases hbig : 30 < zs.length
  · go_enter Tryd.func5, Tryd.ntmps5
    go_wp2_with (go_at_call 9; refine (first_any aL _ HE.out).mono ?_; rintro e w1 ⟨rfl, hb1⟩)
    go_ret
    exact ⟨rfl, hb1⟩
  · have hg := World.block_lt_of_cell? _ _ hE
    clear hE
    obtain ⟨i0, hi0, hz0, hz1, hz2⟩ := info_parts Tryd.info3
    have HI := Lib.hid (And.intro hi0 (And.intro hz0 (And.intro hz1 hz2))); clear hi0 hz0 hz1 hz2
    go_enter Tryd.func5, Tryd.ntmps5
    go_wp2_with (go_at_call 9; refine (first_any aL _ HE.out).mono ?_; rintro e w1 ⟨rfl, hb1⟩)
    have hT0 := tables_new w1
    have hB0 : Below w.heap.size w ((w1.alloc (.cells wTexts 9)).alloc (.cells wKinds 3)) := (hb1.alloc hb1.size _).alloc (by have := hb1.size; simp; omega) _
    have hsz0 : ((w1.alloc (.cells wTexts 9)).alloc (.cells wKinds 3)).heap.size = w1.heap.size + 2 := by simp
    unfold wTexts wKinds at hT0 hB0 hsz0
    obtain ⟨W0, hW0⟩ : ∃ W0, W0 = (w1.alloc (.cells #[.string ⟨#[120]⟩, .string ⟨#[84]⟩, .string ⟨#[49, 50]⟩, .string ⟨#[39, 99, 39]⟩, .string ⟨#[61, 61]⟩, .string ⟨#[45, 62]⟩, .string ⟨#[108, 101, 116]⟩, .string ⟨#[95]⟩, .string ⟨#[61, 62]⟩, .string ⟨#[58, 58]⟩, .string ⟨#[120, 39]⟩, .string ⟨#[40]⟩, .string ⟨#[39, 92, 110, 39]⟩, .string ⟨#[60, 61]⟩, .string ⟨#[61]⟩, .string ⟨#[92]⟩, .string ⟨#[124]⟩, .string ⟨#[42]⟩, .string ⟨#[105, 110]⟩, .string ⟨#[65, 49]⟩] 9)).alloc (.cells #[.int .i64 1, .int .i64 2, .int .i64 3, .int .i64 4, .int .i64 5, .int .i64 6, .int .i64 6, .int .i64 6, .int .i64 6, .int .i64 6, .int .i64 1, .int .i64 6, .int .i64 4, .int .i64 5, .int .i64 6, .int .i64 6, .int .i64 6, .int .i64 5, .int .i64 6, .int .i64 2] 3) := ⟨_, rfl⟩
    rw [← hW0] at hT0 hB0 hsz0 ⊢
    clear hW0
    have HT := Lib.hid hT0; clear hT0
    go_loopw [6, 7, 8] (fun vb vw vi wr => ∃ (i : Nat) (ks : List Nat) (bv wv : Value), bv = vb ∧ wv = vw ∧ vi = .int .i64 i ∧ i ≤ zs.length ∧ Hid (ks = (zs.take i).map kOf) ∧ ks.length = i ∧ Grows wr W0.heap.size bv (cat ks) ∧ wr.ownsRow W0.heap.size 3 1 wv ks.length (intVals ks) ∧ Below W0.heap.size W0 wr) (fun _ _ vi _ => zs.length - (intOf vi).toNat)
    case atStart => exact ⟨0, [], _, _, rfl, rfl, rfl, Nat.zero_le _, Lib.hid rfl, rfl, Grows.nil _ _, World.ownsRow_nil _ _ _ _, Below.refl _ _⟩
    case round =>
      obtain ⟨i, ks, bv, wv, rfl, rfl, rfl, hi, hks, hkl, hG, hrow, hB⟩ := hrel
      have hsB := hB.size
      by_cases hlt : i < zs.length
      · obtain ⟨b, o, rfl, hc⟩ := HA.out i hlt
        have hci0 := hc i hlt
        have hci : wr.cell? ⟨b, o + i, none⟩ = some (.int .i64 zs[i]) := ((hB0.trans (hB.mono hB0.size)).cell (p := ⟨b, o + i, none⟩) (World.block_lt_of_cell? _ _ hci0)).trans hci0
        have hzi := HZ.out zs[i] (List.getElem_mem hlt)
        obtain ⟨hz1, hz2⟩ := hzi
        obtain ⟨z, hz⟩ : ∃ z, zs[i] = z := ⟨_, rfl⟩
        rw [hz] at hci hz1 hz2
        obtain ⟨hq1, hq2⟩ := tmod_bd z
        have hke := kOf_eq z
        have hk20 := kOf_lt z
        have hks' : ks ++ [kOf z] = (zs.take (i + 1)).map kOf := by
          rw [hks.out, List.take_succ_eq_append_getElem hlt, List.map_append, hz]; rfl
        obtain ⟨k, hk⟩ : ∃ k, kOf z = k := ⟨_, rfl⟩
        rw [hk] at hke hk20 hks'
        have HK := Lib.hid hks'; clear hks' hz hc hci0 hk
        have hk5 : ∀ x ∈ ks, x < 20 := by
          intro x hx
          rw [hks.out] at hx
          obtain ⟨y, _, rfl⟩ := List.mem_map.1 hx
          exact kOf_lt y
        have hcl := cat_length ks hk5
        have hwl := w_len k hk20
        have HC := Lib.hid hk5; clear hk5
        -- the three appends, one behind the other
        obtain ⟨vw', w2, hr1, ho1, hg1, _⟩ := run_append_own (P := Tryd.prog) (wr.alloc (.cells #[.int .i64 (k : Int)] 3)) W0.heap.size 46 46 3 i0 (.int .i64 0) 1 8 Tryd.underlying46 HI.out.1 HI.out.2.1 HI.out.2.2.1 HI.out.2.2.2 rfl (by decide) wv ks.length (intVals ks) (hrow.alloc _)
          ⟨wr.heap.size, 0, none⟩ 1 1 [.int .i64 (k : Int)] rfl (cell_one_new _ _ _) (by simp [Value.oneCell']) (by unfold maxLen; omega) (by omega) (by simp; omega)
        have hG1 := (hG.later ((Below.refl _ wr).alloc (Nat.le_refl _) (.cells #[.int .i64 (k : Int)] 3)))
        have hG2 := hG1.kept hg1 (apart_symm (rows_apart (hrow.alloc (.cells #[.int .i64 (k : Int)] 3)) hG1))
        have hB2 := (hB.alloc hsB (.cells #[.int .i64 (k : Int)] 3)).grown hg1 (by simp; omega) (fun j e => (hrow.lt j e).1)
        obtain ⟨vb', w3, hr2, hG3, hg2⟩ := app_string hG2 hB2.size ⟨(wText k).toArray⟩ (by show (wText k).toArray.size ≠ 0; rw [List.size_toArray]; omega) (by show _ + (wText k).toArray.size ≤ _; rw [List.size_toArray]; omega)
        have ho2 := ho1.kept hg2 (rows_apart ho1 hG2)
        have hB3 := hB2.grown hg2 hB2.size (fun j e => grows_block hG2 e)
        have hG4 := hG3.later ((Below.refl _ w3).alloc (Nat.le_refl _) (.cells #[.int .u8 32] 5))
        have hl3 : (cat ks ++ (⟨(wText k).toArray⟩ : ByteArray).data.toList).length ≤ 1000 := by simp; omega
        obtain ⟨vb'', w4, hr3, hG5, hg3⟩ := app_slice hG4 (by have := hB3.size; simp; omega) ⟨w3.heap.size, 0, none⟩ [32] 1 (cell_one_new _ _ _) (by simp) (by simp at hl3 ⊢; omega)
        have ho3 := (ho2.alloc (.cells #[.int .u8 32] 5)).kept hg3 (rows_apart (ho2.alloc (.cells #[.int .u8 32] 5)) hG4)
        have hB4 := (hB3.alloc hB3.size (.cells #[.int .u8 32] 5)).grown hg3 (by have := hB3.size; simp; omega) (fun j e => grows_block hG4 e)
        have hct : w2.cell? ⟨w1.heap.size, k, none⟩ = some (.string ⟨(wText k).toArray⟩) := (HT.out.later hB2 (by omega) k hk20).1
        have Hr1 := Lib.hid hr1; clear hr1
        have Hr2 := Lib.hid hr2; clear hr2
        have Hr3 := Lib.hid hr3; clear hr3
        have hGf : Grows w4 W0.heap.size vb'' (cat (ks ++ [k])) := by rw [cat_snoc]; exact hG5
        have hof : w4.ownsRow W0.heap.size 3 1 vw' (ks ++ [k]).length (intVals (ks ++ [k])) := by
          rw [List.length_append]
          have : intVals (ks ++ [k]) = intVals ks ++ [.int .i64 (k : Int)] := by simp [intVals]
          rw [this]; exact ho3
        clear hG hG1 hG2 hG3 hG4 hG5 ho1 ho2 ho3 hg1 hg2 hg3 hB2 hB3 hl3 hrow
        go_wp2_with (first | (at_builtin; refine Lib.wpList_append_run _ rfl _ _ 46 46 rfl _ _ rfl rfl _ _ Hr1.out ?_) | (at_builtin; refine Lib.wpList_append_run _ rfl _ _ 22 9 rfl _ _ rfl rfl _ _ Hr2.out ?_) | (at_builtin; refine Lib.wpList_append_run _ rfl _ _ 22 22 rfl _ _ rfl rfl _ _ Hr3.out ?_))
        go_roundw
        case rel => exact ⟨i + 1, ks ++ [k], _, _, rfl, rfl, by go_num, by omega, HK, by simp [hkl], hGf, hof, hB4⟩
        case measure => simp [intOf]; omega
      · obtain rfl : i = zs.length := by omega
        have hk5 : ∀ x ∈ ks, x < 20 := by
          intro x hx
          rw [hks.out] at hx
          obtain ⟨y, _, rfl⟩ := List.mem_map.1 hx
          exact kOf_lt y
        have hcl := cat_length ks hk5
        have hby := hG.bytes
        have hE2 := ((hB0.trans (hB.mono hB0.size)).cell (p := ⟨0, 0, none⟩) hg).trans HE.out
        have HE2 := Lib.hid hE2; clear hE2
        have HK5 := Lib.hid hk5; clear hk5
        have hvw : ∃ aw capw, wv = .slice aw ks.length capw ∧ (∀ j (hj : j < ks.length), ks.length ≤ capw ∧ ∃ gw, aw = some ⟨gw, 0, none⟩ ∧ gw < wr.heap.size ∧ ∀ j (hj : j < ks.length), wr.cell? ⟨gw, j, none⟩ = some (.int .i64 (ks[j] : Int))) := by
          rcases hrow.2 with ⟨rfl, h0⟩ | ⟨gw, capw, cur, rfl, hbw, hgw, hcw, _⟩
          · exact ⟨none, 0, by rw [h0], fun j hj => by omega⟩
          · have hcell := hrow.cells (g := gw) rfl
            refine ⟨_, _, rfl, fun j hj => ⟨hcw, gw, rfl, (Array.getElem?_eq_some_iff.1 hgw).1, fun j hj => ?_⟩⟩
            have := hcell j (.int .i64 (ks[j] : Int)) (by simp [intVals, hj])
            rwa [add_plain] at this
        obtain ⟨aw, capw, rfl, hw⟩ := hvw
        have HW := Lib.hid hw; clear hw hrow hG
        go_wp2_with fail
        refine (split_any bv ⟨(cat ks).toArray⟩ (by show (cat ks).toArray.size ≤ _; simp; omega) aL _ none (w_runs0 ks HK5.out) _ hby HE2.out).mono ?_
        rintro e w5 ⟨hb5, (⟨_, u, rfl, hrow⟩ | ⟨p, b, h, _⟩)⟩
        · have htl := wToks_length 0 ks
          have hu : ∃ a1 cap1, u = .slice a1 ks.length cap1 ∧ (∀ j (hj : j < ks.length), ks.length ≤ cap1 ∧ ∃ g, a1 = some ⟨g, 0, none⟩ ∧ ToksAt w5 g ⟨(cat ks).toArray⟩ (wToks 0 ks)) := by
            rcases row_toks hrow with ⟨rfl, h⟩ | ⟨g, cap1, rfl, _, _, hc, ht⟩
            · have : ks.length = 0 := by rw [← htl, h]; rfl
              exact ⟨none, 0, by rw [this], fun j hj => by omega⟩
            · exact ⟨_, _, by rw [htl], fun _ _ => ⟨by omega, g, rfl, ht⟩⟩
          obtain ⟨a1, cap1, rfl, hu⟩ := hu
          have HU := Lib.hid hu; clear hu hrow
          have HTL := Lib.hid htl; clear htl
          have hBf := (hB0.trans (hB.mono hB0.size)).trans (hb5.mono (hB0.trans (hB.mono hB0.size)).size)
          have hT5 := HT.out.later (hB.trans (hb5.mono hsB)) (by omega)
          have HT5 := Lib.hid hT5; clear hT5
          clear hcl hby hb1
          go_wp2
          go_loopw [12] (fun vj ww => ∃ (j : Nat) (nq : Nat), vj = .int .i64 j ∧ j ≤ ks.length ∧ ww = w5.drewN nq) (fun vj _ => ks.length - (intOf vj).toNat)
          case atStart => exact ⟨0, 0, rfl, Nat.zero_le _, rfl⟩
          case round =>
            obtain ⟨j, nq, rfl, hj, rfl⟩ := hrel
            by_cases hjl : j < ks.length
            · obtain ⟨hc1, g, rfl, ht⟩ := HU.out j hjl
              obtain ⟨hc2, gw, rfl, hgw, hw⟩ := HW.out j hjl
              have hjt : j < (wToks 0 ks).length := by rw [HTL.out]; exact hjl
              have hat := w_at (cat ks) ks 0 rfl j hjl hjt
              have htj := ht j hjt
              have c1 := htj.1
              have c2 := htj.2.2.1.trans (by rw [piece_eq _ _ _ (wText ks[j]) hat.2])
              rw [hat.1] at c1
              have c3 := (hb5.cell (p := ⟨gw, j, none⟩) hgw).trans (hw j hjl)
              obtain ⟨k, hk⟩ : ∃ k, ks[j] = k := ⟨_, rfl⟩
              have hk20 : k < 20 := by rw [← hk]; exact HK5.out _ (List.getElem_mem hjl)
              obtain ⟨c4, c5⟩ := HT5.out k hk20
              rw [hk] at c1 c2 c3
              obtain ⟨T, hT⟩ : ∃ T, (⟨(wText k).toArray⟩ : ByteArray) = T := ⟨_, rfl⟩
              obtain ⟨d, hd⟩ : ∃ d, wKind k = d := ⟨_, rfl⟩
              rw [hT] at c2 c4
              rw [hd] at c1 c5
              clear hT hd hk hat htj ht hw hjt
              have hk0 : (0 : Int) ≤ (k : Int) := by omega
              go_wp2
              go_quiet (fail)
              go_wp2
              go_roundw
              case rel => exact ⟨j + 1, _, by go_num, by omega, rfl⟩
              case measure => simp [intOf]; omega
            · go_wp2
              go_ret
              exact ⟨rfl, below_drewN hBf nq⟩
        · cases h
end Go.Proofs.YtnlpilceooncmaaDoor
