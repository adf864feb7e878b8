/- LexerNumbers' own law, walked. -/
import Derived.Test.YtnlpilceooncmaaDoorNames
import Derived.Test.YtnlpilceooncmaaDoorNumbersPlain
namespace Go.Proofs.YtnlpilceooncmaaDoor
open Go.RowKit

/-- A source of an append: nil, or a window of bytes. -/
def SrcAt (w : World) (x : Value) (news : List UInt8) : Prop :=
  (x = .slice none 0 0 ∧ news = []) ∨ ∃ a c, x = .slice (some a) news.length c ∧ ∀ j u, (byteVals news)[j]? = some u → w.cell? (a.add j) = some u
abbrev OwnB (w : World) (base : Nat) (v : Value) (l : List UInt8) : Prop := w.ownsRow base 5 1 v l.length (byteVals l)
theorem app_row {w : World} {base : Nat} {v : Value} {l : List UInt8} (h : OwnB w base v l) (hb : base ≤ w.heap.size) (x : Value) (news : List UInt8) (hx : SrcAt w x news) (hl : l.length + news.length ≤ 1000000) :
    ∃ v' w', (Builtin.append_ #[22, 22] 22 #[v, x]).run Tryd.prog w = .ok v' w' ∧ OwnB w' base v' (l ++ news) ∧ w.grownBy w' v.ownBlock := by
  obtain ⟨i0, hi, hz0, hz1, hz2⟩ := info_parts Tryd.info5
  rcases hx with ⟨rfl, rfl⟩ | ⟨a, c, rfl, hn⟩
  · exact ⟨v, w, run_append_owned_none (P := Tryd.prog) w base 22 22 5 i0 1 Tryd.underlying22 hi v l.length (byteVals l) h, by rw [List.append_nil]; exact h, ⟨rfl, rfl, rfl, Nat.le_refl _, fun _ _ _ => rfl⟩⟩
  · obtain ⟨v', w', hr, ho, hgr, _⟩ := run_append_own (P := Tryd.prog) w base 22 22 5 i0 (.int .u8 0) 1 1 Tryd.underlying22 hi hz0 hz1 hz2 rfl (by decide) v l.length (byteVals l) h
      a news.length c (byteVals news) (by rw [byteVals_length, Nat.mul_one]) hn (byteVals_one news) (by unfold maxLen; omega) (by omega) hb
    exact ⟨v', w', hr, by unfold OwnB; rw [List.length_append, byteVals_append]; exact ho, hgr⟩

theorem size_byte (W : World) : (Go.sizeOf (Tryd.prog.elem 22)).run Tryd.prog W = .ok 1 W := by
  have he : Tryd.prog.elem 22 = 5 := by kernel_rfl
  obtain ⟨i0, hi, _, hz1, _⟩ := info_parts Tryd.info5
  rw [he]
  simp [Go.sizeOf, typeInfo, hi, hz1]
theorem elem_byte : Tryd.prog.underlying 22 = some (.slice (Tryd.prog.elem 22)) := by kernel_rfl
theorem tail_of {w : World} {base : Nat} {v : Value} {Z D : List UInt8} (h : OwnB w base v (Z ++ D)) :
    ∃ x, (∀ W, (Instr.slice 22 v (some (.int .i64 (Z.length : Int))) none none).run Tryd.prog W = .ok x W) ∧ ∀ W, OwnB W base v (Z ++ D) → SrcAt W x D := by
  rcases h.2 with ⟨rfl, h0⟩ | ⟨g, cap, cur, rfl, hb, hg, hc, hm, hs, ht⟩
  · rw [List.length_append] at h0
    obtain rfl : Z = [] := List.length_eq_zero_iff.1 (by omega)
    obtain rfl : D = [] := List.length_eq_zero_iff.1 (by omega)
    refine ⟨.slice none 0 0, fun W => ?_, fun W _ => .inl ⟨rfl, rfl⟩⟩
    rw [run_slice_l _ _ _ _ _ elem_byte _ _ (by decide) (by decide), size_byte]
    rfl
  · rw [List.length_append] at hc
    refine ⟨.slice (some (if cap = Z.length then ⟨g, 0, none⟩ else ⟨g, Z.length, none⟩)) ((Z ++ D).length - Z.length) (cap - Z.length), fun W => ?_, fun W hW => .inr ⟨if cap = Z.length then ⟨g, 0, none⟩ else ⟨g, Z.length, none⟩, cap - Z.length, ?_, fun j u hu => ?_⟩⟩
    · rw [run_slice_l _ _ _ _ _ elem_byte _ _ (by omega) (by rw [List.length_append]; omega), size_byte]
      simp only [Result.andThen, sliced, Int.toNat_natCast]
      by_cases e : cap = Z.length
      · rw [if_pos e, if_pos e]
      · rw [if_neg e, if_neg e]
        simp [add_plain]
    · simp
    · have hj : j < D.length := by
        have := (List.getElem?_eq_some_iff.1 hu).1
        rwa [byteVals_length] at this
      rw [if_neg (by omega)]
      have hcell := hW.cells (g := g) rfl (Z.length + j) u (by
        rw [byteVals_append, List.getElem?_append_right (by rw [byteVals_length]; omega), byteVals_length, Nat.add_sub_cancel_left]
        exact hu)
      rw [add_plain] at hcell
      have ea : (⟨g, Z.length, none⟩ : Addr).add j = ⟨g, Z.length + j, none⟩ := by unfold Addr.add; split <;> simp_all
      rw [ea]; exact hcell
theorem head_of {w : World} {base : Nat} {v : Value} {Z D : List UInt8} (h : OwnB w base v (Z ++ D)) :
    ∃ y, (∀ W, (Instr.slice 22 v none (some (.int .i64 (Z.length : Int))) none).run Tryd.prog W = .ok y W) ∧ y.ownBlock = v.ownBlock ∧ ∀ W, OwnB W base v (Z ++ D) → OwnB W base y Z := by
  rcases h.2 with ⟨rfl, h0⟩ | ⟨g, cap, cur, rfl, hb, hg, hc, hm, hs, ht⟩
  · rw [List.length_append] at h0
    obtain rfl : Z = [] := List.length_eq_zero_iff.1 (by omega)
    refine ⟨.slice none 0 0, fun W => ?_, rfl, fun W _ => World.ownsRow_nil _ _ _ _⟩
    rw [run_slice_h _ _ _ _ _ elem_byte _ _ (by decide) (by decide), size_byte]
    rfl
  · rw [List.length_append] at hc
    refine ⟨.slice (some ⟨g, 0, none⟩) Z.length cap, fun W => ?_, rfl, fun W hW => ?_⟩
    · rw [run_slice_h _ _ _ _ _ elem_byte _ _ (by omega) (by omega), size_byte]
      simp only [Result.andThen, sliced, Int.toNat_natCast]
      by_cases e : cap = 0
      · simp [e]
      · simp [e, add_plain]
    · refine ⟨by rw [byteVals_length, Nat.mul_one], .inr ?_⟩
      rcases hW.2 with ⟨h', _⟩ | ⟨g', cap', cur', h', hb', hg', hc', hm', hs', ht'⟩
      · cases h'
      · simp only [Value.slice.injEq, Option.some.injEq, Addr.mk.injEq, and_true, true_and] at h'
        obtain ⟨rfl, rfl⟩ := h'
        refine ⟨g, cap, cur', rfl, hb', hg', by omega, hm', hs', ?_⟩
        have := congrArg (List.take Z.length) ht'
        rw [List.take_take, byteVals_append, List.length_append, Nat.mul_one] at this
        rw [Nat.min_eq_left (by omega)] at this
        rw [Nat.mul_one, this, ← byteVals_length, List.take_left]
theorem src_of {w : World} {base : Nat} {v : Value} {l : List UInt8} (h : OwnB w base v l) : SrcAt w v l := by
  rcases h.2 with ⟨rfl, h0⟩ | ⟨g, cap, cur, rfl, _⟩
  · exact .inl ⟨rfl, List.length_eq_zero_iff.1 h0⟩
  · exact .inr ⟨_, _, rfl, h.cells (g := g) rfl⟩

set_option maxHeartbeats 4000000 in
set_option maxRecDepth 100000 in
theorem numbers_pos (z q : Int) (aL : Addr) (w : World) (hzz : 0 ≤ z) (h1 : -9223372036854775808 ≤ z) (h2 : z ≤ 9223372036854775807) (h3 : -9223372036854775808 ≤ q) (h4 : q ≤ 9223372036854775807) (hE : w.cell? ⟨0, 0, none⟩ = some (errL aL)) (hA : ErrsAt w) :
    Calls Tryd.prog 7 #[.int .i64 z, .int .i64 q] w fun e w' => e = .returned (.bool true) ∧ Below w.heap.size w w' := by
  have hg := World.block_lt_of_cell? _ _ hE
  have HE := Lib.hid hE; clear hE
  have HA := Lib.hid hA; clear hA
  have HN := Lib.hid (fun W => number_any q 20 W h3 h4 (by decide) (by decide))
  clear h3 h4
  go_enter Tryd.func7, Tryd.ntmps7
  go_wp2_with (first | (go_at_call 9; refine (first_any aL _ HE.out).mono ?_; rintro e w1 ⟨rfl, hb1⟩) | (go_at_call 26; refine (HN.out _).mono ?_; rintro e w2 ⟨r, hr, rfl, rfl⟩))
  obtain ⟨N, hN⟩ : ∃ N : Nat, z % 1000000000 = (N : Int) := ⟨(z % 1000000000).toNat, by omega⟩
  rw [hN]
  have hN9 : N < 1000000000 := by omega
  clear hN h1 h2 hzz HN
  go_loopw [6, 7] (fun vb vi wr => ∃ (m : Nat) (bv : Value), bv = vb ∧ vi = .int .i64 (m : Int) ∧ m ≤ r ∧ OwnB wr w.heap.size bv (zerosL m) ∧ Below w.heap.size w wr) (fun _ vi _ => r - (intOf vi).toNat)
  case atStart => exact ⟨0, _, rfl, rfl, Nat.zero_le _, World.ownsRow_nil _ _ _ _, hb1⟩
  case round =>
    obtain ⟨m, bv, rfl, rfl, hm, hG, hB⟩ := hrel
    have hsB := hB.size
    have hzl : (zerosL m).length = m := by simp [zerosL]
    by_cases hlt : m < r
    · obtain ⟨v', w2, hr2, hG2, hgr⟩ := app_row (hG.alloc (.cells #[.int .u8 48] 5)) (by simp; omega) (.slice (some ⟨wr.heap.size, 0, none⟩) 1 1) [48] (.inr ⟨_, _, rfl, cell_one_new _ _ _⟩) (by rw [hzl]; simp; omega)
      have hB2 := (hB.alloc hsB (.cells #[.int .u8 48] 5)).grown hgr (by simp; omega) (fun j e => (hG.lt j e).1)
      have hzs : zerosL m ++ [48] = zerosL (m + 1) := by unfold zerosL; rw [List.replicate_succ']
      rw [hzs] at hG2
      have Hr := Lib.hid hr2; clear hr2 hgr
      clear hzl hzs hG
      go_wp2_with (at_builtin; refine Lib.wpList_append_run _ rfl _ _ 22 22 rfl _ _ rfl rfl _ _ Hr.out ?_)
      go_roundw
      case rel => exact ⟨m + 1, _, rfl, by go_num, by omega, hG2, hB2⟩
      case measure => simp [intOf]; omega
    · obtain rfl : m = r := by omega
      have hbv : ∃ a cap, bv = .slice a m cap ∧ (m ≤ cap) ∧ (m = 0 ∨ ∃ g, a = some ⟨g, 0, none⟩) := by
        rcases hG.2 with ⟨rfl, h0⟩ | ⟨g, cap, cur, rfl, _, _, hc, _⟩
        · exact ⟨none, 0, by rw [show m = 0 by omega], by omega, .inl (by omega)⟩
        · exact ⟨_, cap, by rw [hzl], by omega, .inr ⟨g, rfl⟩⟩
      obtain ⟨a, cap, rfl, hcap, _⟩ := hbv
      go_wp2_with fail
      go_loopw [6, 9] (fun vb vv wr2 => ∃ (f v : Nat) (bv : Value) (D : List UInt8), bv = vb ∧ vv = .int .i64 (v : Int) ∧ v < 10 ^ (f + 1) ∧ v < 1000000000 ∧ dec (f + 1) v ++ D = dec 9 N ∧ OwnB wr2 w.heap.size bv (zerosL m ++ D) ∧ Below w.heap.size w wr2) (fun _ vv _ => (intOf vv).toNat)
      case atStart => exact ⟨8, N, _, [], rfl, rfl, by omega, hN9, by rw [List.append_nil], by rw [List.append_nil]; exact hG, hB⟩
      case round =>
        clear hG hB hsB
        obtain ⟨f, v, bv, D, rfl, rfl, hv, hv9, hD, hG, hB⟩ := hrel
        have hsB := hB.size
        have hzl : (zerosL m).length = m := by simp [zerosL]
        have hdl : D.length ≤ 9 := by
          have e := congrArg List.length hD
          rw [List.length_append] at e
          have := dec_le 9 N
          omega
        obtain ⟨x, hx, hsx⟩ := tail_of hG
        obtain ⟨y, hy, hyb, hsy⟩ := head_of hG
        rw [hzl] at hx hy
        have hd : (48 : Int) + (v : Int) % 10 = ((digC v).toNat : Int) := by rw [digC_nat]; omega
        have hsx1 := hsx _ (hG.alloc (.cells #[.int .u8 ((digC v).toNat : Int)] 5))
        obtain ⟨vc, w2, hr1, ho1, hg1⟩ := app_row (l := [digC v]) (World.ownsRow_lit wr #[.int .u8 ((digC v).toNat : Int)] 1 hsB (by decide) rfl) (by simp; omega) x D hsx1 (by simp; omega)
        have hg1' : (some wr.heap.size : Option Nat) = (Value.slice (some ⟨wr.heap.size, 0, none⟩) 1 1).ownBlock := rfl
        have hne1 : bv.ownBlock = none ∨ bv.ownBlock ≠ some wr.heap.size := by
          rcases hG.2 with ⟨rfl, _⟩ | ⟨g, _, _, rfl, _, hgb, _⟩
          · exact .inl rfl
          · refine .inr fun e => ?_
            have e' : g = wr.heap.size := by simpa [Value.ownBlock] using e
            have := (Array.getElem?_eq_some_iff.1 hgb).1
            omega
        have hG2 : OwnB w2 w.heap.size bv (zerosL m ++ D) := (hG.alloc _).kept hg1 hne1
        have hB2 := (hB.alloc hsB (.cells #[.int .u8 ((digC v).toNat : Int)] 5)).grown hg1 (by simp; omega) (fun j e => by rw [← hg1'] at e; cases e; exact hsB)
        obtain ⟨v', w3, hr2, ho2, hg2⟩ := app_row (hsy w2 hG2) hB2.size vc _ (src_of ho1) (by rw [hzl]; simp; omega)
        have hB3 := hB2.grown hg2 hB2.size (fun j e => ((hsy w2 hG2).lt j e).1)
        have Hr1 := Lib.hid hr1; clear hr1
        have Hr2 := Lib.hid hr2; clear hr2
        have HO2 := Lib.hid ho2; clear ho2
        have HV := Lib.hid hv; clear hv
        have HV9 := Lib.hid hv9; clear hv9
        have HD := Lib.hid hD; clear hD
        clear hsx hsy hyb hsx1 ho1 hg1 hg1' hne1 hG hG2 hg2 hzl
        by_cases hv10 : v < 10
        · obtain ⟨L, hL⟩ : ∃ L, zerosL m ++ dec 9 N = L := ⟨_, rfl⟩
          have hdd : allDig L := by
            intro c hc
            rw [← hL] at hc
            rcases List.mem_append.1 hc with hc | hc
            · exact zeros_dig m c hc
            · exact dec_dig 9 N c hc
          have hLv : valOf L = (N : Int) := by rw [← hL, valOf_zeros, dec_val 9 N (by omega)]
          have hLp : 0 < L.length := by rw [← hL, List.length_append]; have : 1 ≤ (dec 9 N).length := dec_pos 8 N; omega
          have hLl : L.length ≤ 40 := by rw [← hL, List.length_append]; have := dec_le 9 N; simp [zerosL]; omega
          have hoL : OwnB w3 w.heap.size v' L := by
            have e : zerosL m ++ ([digC v] ++ D) = L := by rw [← hL, ← HD.out, dec_small f v hv10]
            rw [← e]; exact HO2.out
          clear hL HO2 HD HV
          have hs3 := hB3.size
          obtain ⟨v2, w4, hr4, ho4, hg4⟩ := app_row (l := []) (World.ownsRow_lit w3 #[] 0 hs3 (by decide) rfl) (by simp; omega) v' L (src_of (hoL.alloc (.cells #[] 5))) (by simp; omega)
          have hB4 := (hB3.alloc hs3 (.cells #[] 5)).grown hg4 (by simp; omega) (fun j e => by cases e; exact hs3)
          have hs4 := hB4.size
          obtain ⟨v3, w5, hr5, ho5, hg5⟩ := app_row (ho4.alloc (.cells #[.int .u8 120] 5)) (by simp; omega) (.slice (some ⟨w4.heap.size, 0, none⟩) 1 1) [120] (.inr ⟨_, _, rfl, cell_one_new _ _ _⟩) (by simp; omega)
          have hB5 := (hB4.alloc hs4 (.cells #[.int .u8 120] 5)).grown hg5 (by simp; omega) (fun j e => (ho4.lt j e).1)
          have hby : BytesAt w5 v3 ⟨(L ++ [120]).toArray⟩ := Grows.bytes (.inl ho5)
          have Hr4 := Lib.hid hr4; clear hr4
          have Hr5 := Lib.hid hr5; clear hr5
          have hvs : ∃ a' c', v' = .slice a' L.length c' := by
            rcases hoL.2 with ⟨rfl, h0⟩ | ⟨g, c', _, rfl, _⟩
            · exact ⟨none, 0, by rw [h0]⟩
            · exact ⟨_, _, rfl⟩
          obtain ⟨a', c', rfl⟩ := hvs
          have hE5 := (hB5.cell (p := ⟨0, 0, none⟩) hg).trans HE.out
          have HE5 := Lib.hid hE5; clear hE5
          have HBY := Lib.hid hby; clear hby
          have HDD := Lib.hid hdd; clear hdd
          have hsz : (⟨(L ++ [120]).toArray⟩ : ByteArray).size ≤ 20000 := by show (L ++ [120]).toArray.size ≤ _; simp; omega
          have HSZ := Lib.hid hsz; clear hsz
          clear ho4 ho5 hg4 hg5 hoL hB hB2 hB3 hB4 hs3 hs4 hsB hb1
          have HB5 := Lib.hid hB5; clear hB5
          have HLV := Lib.hid hLv; clear hLv
          go_wp2_with (first | (at_builtin; refine Lib.wpList_append_run _ rfl _ _ 22 22 rfl _ _ rfl rfl _ _ Hr1.out ?_) | (at_builtin; refine Lib.wpList_append_run _ rfl _ _ 22 22 rfl _ _ rfl rfl _ _ Hr2.out ?_) | (at_builtin; refine Lib.wpList_append_run _ rfl _ _ 22 22 rfl _ _ rfl rfl _ _ Hr4.out ?_) | (at_builtin; refine Lib.wpList_append_run _ rfl _ _ 22 22 rfl _ _ rfl rfl _ _ Hr5.out ?_))
          clear Hr1 Hr2 Hr4 Hr5
          by_cases h15 : 15 < L.length
          · refine (split_any v3 _ HSZ.out aL [] (some 0) (num_bad L HDD.out h15) _ HBY.out HE5.out).mono ?_
            rintro e w6 ⟨hb6, (⟨h, _⟩ | ⟨p, b, h, rfl, hat⟩)⟩
            · cases h
            · obtain rfl : 0 = p := by simpa using h
              have hB6 := HB5.out.trans (hb6.mono HB5.out.size)
              have HE6 := Lib.hid ((hb6.cell (p := ⟨0, 0, none⟩) (World.block_lt_of_cell? _ _ HE5.out)).trans HE5.out)
              have HA6 := Lib.hid (HA.out.later hB6)
              have HAT := Lib.hid hat; clear hat
              clear HE5 HE HA hb6 HBY
              go_wp2_with (first
                | (go_at_call 27; refine (placed_any 101 0 _ rfl).mono ?_; rintro e w7 ⟨rfl, hb7⟩)
                | (go_at_call 13
                   refine (same_at aL b 0 _ ((hb7.cell (p := ⟨0, 0, none⟩) (World.block_lt_of_cell? _ _ HE6.out)).trans HE6.out) (HA6.out.later hb7) ((hb7.block b (Array.getElem?_eq_some_iff.1 HAT.out).1).trans HAT.out)).mono ?_
                   rintro e w8 ⟨rfl, hb8⟩))
              go_ret
              exact ⟨rfl, hB6.trans ((hb7.trans (hb8.mono hb7.size)).mono hB6.size)⟩
          · refine (split_any v3 _ HSZ.out aL _ none (num_runs L HDD.out hLp (by omega)) _ HBY.out HE5.out).mono ?_
            rintro e w6 ⟨hb6, (⟨_, u, rfl, hrow⟩ | ⟨p, b, h, _⟩)⟩
            · rcases row_toks hrow with ⟨_, h⟩ | ⟨g, cap1, rfl, hg1, hg2, hcap1, ht⟩
              · cases h
              · have t0 := (ht 0 (by simp)).1
                have t3 := (ht 0 (by simp)).2.2.2
                have t5 := (ht 1 (by simp)).2.1
                have t6 : w6.cell? ⟨g, 6, none⟩ = some (.string ⟨#[120]⟩) := (ht 1 (by simp)).2.2.1.trans (by
                  rw [piece_eq _ _ _ [120]]
                  show ((L ++ [120]).drop L.length).take 1 = _
                  rw [List.drop_left]; rfl)
                simp only [List.getElem_cons_zero, List.getElem_cons_succ, HLV.out] at t0 t3 t5
                simp only [List.length_cons, List.length_nil, Nat.zero_add, Nat.reduceAdd] at hcap1 ⊢
                have HB6 := Lib.hid (HB5.out.trans (hb6.mono HB5.out.size))
                clear ht hrow hb6 HBY HE5 HE HA
                go_wp2
                go_ret
                exact ⟨rfl, HB6.out⟩
            · cases h
        · have hf : ∃ f', f = f' + 1 := by
            cases f with
            | zero => exact absurd HV.out (by omega)
            | succ f' => exact ⟨f', rfl⟩
          obtain ⟨f', rfl⟩ := hf
          have hv2 : v / 10 < 10 ^ (f' + 1) := by
            have := HV.out
            rw [Nat.pow_succ] at this
            omega
          have hD2 : dec (f' + 1) (v / 10) ++ ([digC v] ++ D) = dec 9 N := by
            have := HD.out
            rw [dec_step _ _ hv10, List.append_assoc] at this
            exact this
          have HV2 := Lib.hid hv2; clear hv2
          have HD2 := Lib.hid hD2; clear hD2
          clear HV HD
          obtain ⟨q10, hq10⟩ : ∃ q : Nat, v / 10 = q := ⟨_, rfl⟩
          rw [hq10] at HV2 HD2
          have hqi : (v : Int) / 10 = (q10 : Int) := by omega
          have hq9 : q10 < 1000000000 := by have := HV9.out; omega
          have hqv : q10 < v := by omega
          clear HV9 hq10
          go_wp2_with (first | (at_builtin; refine Lib.wpList_append_run _ rfl _ _ 22 22 rfl _ _ rfl rfl _ _ Hr1.out ?_) | (at_builtin; refine Lib.wpList_append_run _ rfl _ _ 22 22 rfl _ _ rfl rfl _ _ Hr2.out ?_))
          go_roundw
          case rel => exact ⟨f', q10, _, [digC v] ++ D, rfl, rfl, HV2.out, hq9, HD2.out, HO2.out, hB3⟩
          case measure => simp [intOf]; omega
set_option maxHeartbeats 4000000 in
set_option maxRecDepth 100000 in
theorem numbers_neg (z q : Int) (aL : Addr) (w : World) (hzz : z < 0) (h1 : -9223372036854775808 ≤ z) (h2 : z ≤ 9223372036854775807) (h3 : -9223372036854775808 ≤ q) (h4 : q ≤ 9223372036854775807) (hE : w.cell? ⟨0, 0, none⟩ = some (errL aL)) (hA : ErrsAt w) :
    Calls Tryd.prog 7 #[.int .i64 z, .int .i64 q] w fun e w' => e = .returned (.bool true) ∧ Below w.heap.size w w' := by
  have hg := World.block_lt_of_cell? _ _ hE
  have HE := Lib.hid hE; clear hE
  have HA := Lib.hid hA; clear hA
  have HN := Lib.hid (fun W => number_any q 20 W h3 h4 (by decide) (by decide))
  clear h3 h4
  go_enter Tryd.func7, Tryd.ntmps7
  go_wp2_with (first | (go_at_call 9; refine (first_any aL _ HE.out).mono ?_; rintro e w1 ⟨rfl, hb1⟩) | (go_at_call 26; refine (HN.out _).mono ?_; rintro e w2 ⟨r, hr, rfl, rfl⟩))
  have ht : -(z + 1).tmod 1000000000 = (-(z + 1)) % 1000000000 := by rw [← Int.neg_tmod, Int.tmod_eq_emod_of_nonneg (by omega)]
  obtain ⟨N, hN⟩ : ∃ N : Nat, -(z + 1).tmod 1000000000 = (N : Int) := ⟨(-(z + 1).tmod 1000000000).toNat, by omega⟩
  rw [hN]
  have hN9 : N < 1000000000 := by omega
  clear hN h1 h2 hzz HN
  go_loopw [6, 7] (fun vb vi wr => ∃ (m : Nat) (bv : Value), bv = vb ∧ vi = .int .i64 (m : Int) ∧ m ≤ r ∧ OwnB wr w.heap.size bv (zerosL m) ∧ Below w.heap.size w wr) (fun _ vi _ => r - (intOf vi).toNat)
  case atStart => exact ⟨0, _, rfl, rfl, Nat.zero_le _, World.ownsRow_nil _ _ _ _, hb1⟩
  case round =>
    obtain ⟨m, bv, rfl, rfl, hm, hG, hB⟩ := hrel
    have hsB := hB.size
    have hzl : (zerosL m).length = m := by simp [zerosL]
    by_cases hlt : m < r
    · obtain ⟨v', w2, hr2, hG2, hgr⟩ := app_row (hG.alloc (.cells #[.int .u8 48] 5)) (by simp; omega) (.slice (some ⟨wr.heap.size, 0, none⟩) 1 1) [48] (.inr ⟨_, _, rfl, cell_one_new _ _ _⟩) (by rw [hzl]; simp; omega)
      have hB2 := (hB.alloc hsB (.cells #[.int .u8 48] 5)).grown hgr (by simp; omega) (fun j e => (hG.lt j e).1)
      have hzs : zerosL m ++ [48] = zerosL (m + 1) := by unfold zerosL; rw [List.replicate_succ']
      rw [hzs] at hG2
      have Hr := Lib.hid hr2; clear hr2 hgr
      clear hzl hzs hG
      go_wp2_with (at_builtin; refine Lib.wpList_append_run _ rfl _ _ 22 22 rfl _ _ rfl rfl _ _ Hr.out ?_)
      go_roundw
      case rel => exact ⟨m + 1, _, rfl, by go_num, by omega, hG2, hB2⟩
      case measure => simp [intOf]; omega
    · obtain rfl : m = r := by omega
      have hbv : ∃ a cap, bv = .slice a m cap ∧ (m ≤ cap) ∧ (m = 0 ∨ ∃ g, a = some ⟨g, 0, none⟩) := by
        rcases hG.2 with ⟨rfl, h0⟩ | ⟨g, cap, cur, rfl, _, _, hc, _⟩
        · exact ⟨none, 0, by rw [show m = 0 by omega], by omega, .inl (by omega)⟩
        · exact ⟨_, cap, by rw [hzl], by omega, .inr ⟨g, rfl⟩⟩
      obtain ⟨a, cap, rfl, hcap, _⟩ := hbv
      go_wp2_with fail
      go_loopw [6, 9] (fun vb vv wr2 => ∃ (f v : Nat) (bv : Value) (D : List UInt8), bv = vb ∧ vv = .int .i64 (v : Int) ∧ v < 10 ^ (f + 1) ∧ v < 1000000000 ∧ dec (f + 1) v ++ D = dec 9 N ∧ OwnB wr2 w.heap.size bv (zerosL m ++ D) ∧ Below w.heap.size w wr2) (fun _ vv _ => (intOf vv).toNat)
      case atStart => exact ⟨8, N, _, [], rfl, rfl, by omega, hN9, by rw [List.append_nil], by rw [List.append_nil]; exact hG, hB⟩
      case round =>
        clear hG hB hsB
        obtain ⟨f, v, bv, D, rfl, rfl, hv, hv9, hD, hG, hB⟩ := hrel
        have hsB := hB.size
        have hzl : (zerosL m).length = m := by simp [zerosL]
        have hdl : D.length ≤ 9 := by
          have e := congrArg List.length hD
          rw [List.length_append] at e
          have := dec_le 9 N
          omega
        obtain ⟨x, hx, hsx⟩ := tail_of hG
        obtain ⟨y, hy, hyb, hsy⟩ := head_of hG
        rw [hzl] at hx hy
        have hd : (48 : Int) + (v : Int) % 10 = ((digC v).toNat : Int) := by rw [digC_nat]; omega
        have hsx1 := hsx _ (hG.alloc (.cells #[.int .u8 ((digC v).toNat : Int)] 5))
        obtain ⟨vc, w2, hr1, ho1, hg1⟩ := app_row (l := [digC v]) (World.ownsRow_lit wr #[.int .u8 ((digC v).toNat : Int)] 1 hsB (by decide) rfl) (by simp; omega) x D hsx1 (by simp; omega)
        have hg1' : (some wr.heap.size : Option Nat) = (Value.slice (some ⟨wr.heap.size, 0, none⟩) 1 1).ownBlock := rfl
        have hne1 : bv.ownBlock = none ∨ bv.ownBlock ≠ some wr.heap.size := by
          rcases hG.2 with ⟨rfl, _⟩ | ⟨g, _, _, rfl, _, hgb, _⟩
          · exact .inl rfl
          · refine .inr fun e => ?_
            have e' : g = wr.heap.size := by simpa [Value.ownBlock] using e
            have := (Array.getElem?_eq_some_iff.1 hgb).1
            omega
        have hG2 : OwnB w2 w.heap.size bv (zerosL m ++ D) := (hG.alloc _).kept hg1 hne1
        have hB2 := (hB.alloc hsB (.cells #[.int .u8 ((digC v).toNat : Int)] 5)).grown hg1 (by simp; omega) (fun j e => by rw [← hg1'] at e; cases e; exact hsB)
        obtain ⟨v', w3, hr2, ho2, hg2⟩ := app_row (hsy w2 hG2) hB2.size vc _ (src_of ho1) (by rw [hzl]; simp; omega)
        have hB3 := hB2.grown hg2 hB2.size (fun j e => ((hsy w2 hG2).lt j e).1)
        have Hr1 := Lib.hid hr1; clear hr1
        have Hr2 := Lib.hid hr2; clear hr2
        have HO2 := Lib.hid ho2; clear ho2
        have HV := Lib.hid hv; clear hv
        have HV9 := Lib.hid hv9; clear hv9
        have HD := Lib.hid hD; clear hD
        clear hsx hsy hyb hsx1 ho1 hg1 hg1' hne1 hG hG2 hg2 hzl
        by_cases hv10 : v < 10
        · obtain ⟨L, hL⟩ : ∃ L, zerosL m ++ dec 9 N = L := ⟨_, rfl⟩
          have hdd : allDig L := by
            intro c hc
            rw [← hL] at hc
            rcases List.mem_append.1 hc with hc | hc
            · exact zeros_dig m c hc
            · exact dec_dig 9 N c hc
          have hLv : valOf L = (N : Int) := by rw [← hL, valOf_zeros, dec_val 9 N (by omega)]
          have hLp : 0 < L.length := by rw [← hL, List.length_append]; have : 1 ≤ (dec 9 N).length := dec_pos 8 N; omega
          have hLl : L.length ≤ 40 := by rw [← hL, List.length_append]; have := dec_le 9 N; simp [zerosL]; omega
          have hoL : OwnB w3 w.heap.size v' L := by
            have e : zerosL m ++ ([digC v] ++ D) = L := by rw [← hL, ← HD.out, dec_small f v hv10]
            rw [← e]; exact HO2.out
          clear hL HO2 HD HV
          have hs3 := hB3.size
          obtain ⟨v2, w4, hr4, ho4, hg4⟩ := app_row (l := []) (World.ownsRow_lit w3 #[] 0 hs3 (by decide) rfl) (by simp; omega) v' L (src_of (hoL.alloc (.cells #[] 5))) (by simp; omega)
          have hB4 := (hB3.alloc hs3 (.cells #[] 5)).grown hg4 (by simp; omega) (fun j e => by cases e; exact hs3)
          have hs4 := hB4.size
          obtain ⟨v3, w5, hr5, ho5, hg5⟩ := app_row (ho4.alloc (.cells #[.int .u8 120] 5)) (by simp; omega) (.slice (some ⟨w4.heap.size, 0, none⟩) 1 1) [120] (.inr ⟨_, _, rfl, cell_one_new _ _ _⟩) (by simp; omega)
          have hB5 := (hB4.alloc hs4 (.cells #[.int .u8 120] 5)).grown hg5 (by simp; omega) (fun j e => (ho4.lt j e).1)
          have hby : BytesAt w5 v3 ⟨(L ++ [120]).toArray⟩ := Grows.bytes (.inl ho5)
          have Hr4 := Lib.hid hr4; clear hr4
          have Hr5 := Lib.hid hr5; clear hr5
          have hvs : ∃ a' c', v' = .slice a' L.length c' := by
            rcases hoL.2 with ⟨rfl, h0⟩ | ⟨g, c', _, rfl, _⟩
            · exact ⟨none, 0, by rw [h0]⟩
            · exact ⟨_, _, rfl⟩
          obtain ⟨a', c', rfl⟩ := hvs
          have hE5 := (hB5.cell (p := ⟨0, 0, none⟩) hg).trans HE.out
          have HE5 := Lib.hid hE5; clear hE5
          have HBY := Lib.hid hby; clear hby
          have HDD := Lib.hid hdd; clear hdd
          have hsz : (⟨(L ++ [120]).toArray⟩ : ByteArray).size ≤ 20000 := by show (L ++ [120]).toArray.size ≤ _; simp; omega
          have HSZ := Lib.hid hsz; clear hsz
          clear ho4 ho5 hg4 hg5 hoL hB hB2 hB3 hB4 hs3 hs4 hsB hb1
          have HB5 := Lib.hid hB5; clear hB5
          have HLV := Lib.hid hLv; clear hLv
          go_wp2_with (first | (at_builtin; refine Lib.wpList_append_run _ rfl _ _ 22 22 rfl _ _ rfl rfl _ _ Hr1.out ?_) | (at_builtin; refine Lib.wpList_append_run _ rfl _ _ 22 22 rfl _ _ rfl rfl _ _ Hr2.out ?_) | (at_builtin; refine Lib.wpList_append_run _ rfl _ _ 22 22 rfl _ _ rfl rfl _ _ Hr4.out ?_) | (at_builtin; refine Lib.wpList_append_run _ rfl _ _ 22 22 rfl _ _ rfl rfl _ _ Hr5.out ?_))
          clear Hr1 Hr2 Hr4 Hr5
          by_cases h15 : 15 < L.length
          · refine (split_any v3 _ HSZ.out aL [] (some 0) (num_bad L HDD.out h15) _ HBY.out HE5.out).mono ?_
            rintro e w6 ⟨hb6, (⟨h, _⟩ | ⟨p, b, h, rfl, hat⟩)⟩
            · cases h
            · obtain rfl : 0 = p := by simpa using h
              have hB6 := HB5.out.trans (hb6.mono HB5.out.size)
              have HE6 := Lib.hid ((hb6.cell (p := ⟨0, 0, none⟩) (World.block_lt_of_cell? _ _ HE5.out)).trans HE5.out)
              have HA6 := Lib.hid (HA.out.later hB6)
              have HAT := Lib.hid hat; clear hat
              clear HE5 HE HA hb6 HBY
              go_wp2_with (first
                | (go_at_call 27; refine (placed_any 101 0 _ rfl).mono ?_; rintro e w7 ⟨rfl, hb7⟩)
                | (go_at_call 13
                   refine (same_at aL b 0 _ ((hb7.cell (p := ⟨0, 0, none⟩) (World.block_lt_of_cell? _ _ HE6.out)).trans HE6.out) (HA6.out.later hb7) ((hb7.block b (Array.getElem?_eq_some_iff.1 HAT.out).1).trans HAT.out)).mono ?_
                   rintro e w8 ⟨rfl, hb8⟩))
              go_ret
              exact ⟨rfl, hB6.trans ((hb7.trans (hb8.mono hb7.size)).mono hB6.size)⟩
          · refine (split_any v3 _ HSZ.out aL _ none (num_runs L HDD.out hLp (by omega)) _ HBY.out HE5.out).mono ?_
            rintro e w6 ⟨hb6, (⟨_, u, rfl, hrow⟩ | ⟨p, b, h, _⟩)⟩
            · rcases row_toks hrow with ⟨_, h⟩ | ⟨g, cap1, rfl, hg1, hg2, hcap1, ht⟩
              · cases h
              · have t0 := (ht 0 (by simp)).1
                have t3 := (ht 0 (by simp)).2.2.2
                have t5 := (ht 1 (by simp)).2.1
                have t6 : w6.cell? ⟨g, 6, none⟩ = some (.string ⟨#[120]⟩) := (ht 1 (by simp)).2.2.1.trans (by
                  rw [piece_eq _ _ _ [120]]
                  show ((L ++ [120]).drop L.length).take 1 = _
                  rw [List.drop_left]; rfl)
                simp only [List.getElem_cons_zero, List.getElem_cons_succ, HLV.out] at t0 t3 t5
                simp only [List.length_cons, List.length_nil, Nat.zero_add, Nat.reduceAdd] at hcap1 ⊢
                have HB6 := Lib.hid (HB5.out.trans (hb6.mono HB5.out.size))
                clear ht hrow hb6 HBY HE5 HE HA
                go_wp2
                go_ret
                exact ⟨rfl, HB6.out⟩
            · cases h
        · have hf : ∃ f', f = f' + 1 := by
            cases f with
            | zero => exact absurd HV.out (by omega)
            | succ f' => exact ⟨f', rfl⟩
          obtain ⟨f', rfl⟩ := hf
          have hv2 : v / 10 < 10 ^ (f' + 1) := by
            have := HV.out
            rw [Nat.pow_succ] at this
            omega
          have hD2 : dec (f' + 1) (v / 10) ++ ([digC v] ++ D) = dec 9 N := by
            have := HD.out
            rw [dec_step _ _ hv10, List.append_assoc] at this
            exact this
          have HV2 := Lib.hid hv2; clear hv2
          have HD2 := Lib.hid hD2; clear hD2
          clear HV HD
          obtain ⟨q10, hq10⟩ : ∃ q : Nat, v / 10 = q := ⟨_, rfl⟩
          rw [hq10] at HV2 HD2
          have hqi : (v : Int) / 10 = (q10 : Int) := by omega
          have hq9 : q10 < 1000000000 := by have := HV9.out; omega
          have hqv : q10 < v := by omega
          clear HV9 hq10
          go_wp2_with (first | (at_builtin; refine Lib.wpList_append_run _ rfl _ _ 22 22 rfl _ _ rfl rfl _ _ Hr1.out ?_) | (at_builtin; refine Lib.wpList_append_run _ rfl _ _ 22 22 rfl _ _ rfl rfl _ _ Hr2.out ?_))
          go_roundw
          case rel => exact ⟨f', q10, _, [digC v] ++ D, rfl, rfl, HV2.out, hq9, HD2.out, HO2.out, hB3⟩
          case measure => simp [intOf]; omega

theorem numbers_any (z q : Int) (aL : Addr) (w : World) (h1 : -9223372036854775808 ≤ z) (h2 : z ≤ 9223372036854775807) (h3 : -9223372036854775808 ≤ q) (h4 : q ≤ 9223372036854775807) (hE : w.cell? ⟨0, 0, none⟩ = some (errL aL)) (hA : ErrsAt w) :
    Calls Tryd.prog 7 #[.int .i64 z, .int .i64 q] w fun e w' => e = .returned (.bool true) ∧ Below w.heap.size w w' := by
  by_cases h : 0 ≤ z
  · exact numbers_pos z q aL w h h1 h2 h3 h4 hE hA
  · exact numbers_neg z q aL w (by omega) h1 h2 h3 h4 hE hA
end Go.Proofs.YtnlpilceooncmaaDoor
