/- Two rows of the same words are found the same. -/
import Derived.Test.YtnlpilceooncmaaDoorRefSplit
import Derived.Deep.RegionWith
namespace Go.Proofs.YtnlpilceooncmaaDoor
open Go.RowKit
attribute [local go_sem] Oper.semAt_some

set_option maxHeartbeats 1000000 in
theorem sameToken_eq (k p n : Int) (t : ByteArray) (w : World) :
    Calls Tryd.prog 29 #[tokV k p t n, tokV k p t n] w fun e w' => e = .returned (.bool true) ∧ Below w.heap.size w w' := by
  unfold tokV
  have hq : (t.toList == t.toList) = true := by simp
  go_enter Tryd.func29, Tryd.ntmps29
  go_wp2
  go_ret
  exact ⟨rfl, ((Below.refl _ _).alloc (Nat.le_refl _) _).alloc (by simp) _⟩

/-- v is a slice of the words ts of s. -/
def TokRow (W : World) (v : Value) (s : ByteArray) (ts : List Tok) : Prop :=
  (v = .slice none 0 0 ∧ ts = []) ∨ ∃ g cap, v = .slice (some ⟨g, 0, none⟩) ts.length cap ∧ g < W.heap.size ∧ ts.length ≤ cap ∧ ToksAt W g s ts
theorem TokRow.of_row {W : World} {base : Nat} {v : Value} {s : ByteArray} {ts : List Tok} (h : W.ownsRow base 40 4 v ts.length (rowOf s ts)) : TokRow W v s ts := by
  rcases row_toks h with h | ⟨g, cap, hv, _, hg, hc, ht⟩
  · exact .inl h
  · exact .inr ⟨g, cap, hv, hg, hc, ht⟩
theorem TokRow.later {W W' : World} {v : Value} {s : ByteArray} {ts : List Tok} (h : TokRow W v s ts) (hb : Below W.heap.size W W') : TokRow W' v s ts := by
  rcases h with h | ⟨g, cap, hv, hg, hc, ht⟩
  · exact .inl h
  · exact .inr ⟨g, cap, hv, Nat.lt_of_lt_of_le hg hb.size, hc, ht.later hb hg⟩

set_option maxHeartbeats 4000000 in
theorem sameToks_rows (s : ByteArray) (ts : List Tok) (g1 g2 c1 c2 : Nat) (w : World) (hn : ts.length ≤ 20000) (hc1 : ts.length ≤ c1) (hc2 : ts.length ≤ c2) (hg1 : g1 < w.heap.size) (hg2 : g2 < w.heap.size) (h1 : ToksAt w g1 s ts) (h2 : ToksAt w g2 s ts) :
    Calls Tryd.prog 12 #[.slice (some ⟨g1, 0, none⟩) ts.length c1, .slice (some ⟨g2, 0, none⟩) ts.length c2] w fun e w' => e = .returned (.bool true) ∧ Below w.heap.size w w' := by
  have H1 := Lib.hid h1; clear h1
  have H2 := Lib.hid h2; clear h2
  have HS := Lib.hid (fun k p n t W => sameToken_eq k p n t W)
  unfold tokV at HS
  have hm : ((ts.length : Int) != (ts.length : Int)) = false := by simp
  go_enter Tryd.func12, Tryd.ntmps12
  go_wp2
  go_loopw [5] (fun vi wr => ∃ i : Nat, i ≤ ts.length ∧ vi = .int .i64 i ∧ Hid (Below w.heap.size w wr)) (fun vi _ => ts.length - (intOf vi).toNat)
  case atStart => exact ⟨0, Nat.zero_le _, rfl, Lib.hid (Below.refl _ _)⟩
  case round =>
    obtain ⟨i, hi, rfl, hB⟩ := hrel
    by_cases hlt : i < ts.length
    · obtain ⟨a0, a1, a2, a3⟩ := (H1.out.later hB.out hg1) i hlt
      obtain ⟨b0, b1, b2, b3⟩ := (H2.out.later hB.out hg2) i hlt
      obtain ⟨k, hk⟩ : ∃ k, ts[i].kind = k := ⟨_, rfl⟩
      obtain ⟨p, hp⟩ : ∃ p, ts[i].pos = p := ⟨_, rfl⟩
      obtain ⟨n, hnn⟩ : ∃ n, ts[i].num = n := ⟨_, rfl⟩
      rw [hk] at a0 b0
      rw [hp] at a1 b1 a2 b2
      rw [hnn] at a3 b3
      obtain ⟨t, ht⟩ : ∃ t, (s.extract p s.size).extract 0 ts[i].len = t := ⟨_, rfl⟩
      rw [ht] at a2 b2
      clear ht hk hp hnn
      go_wp2
      go_region_with (first
        | (go_at_call 29; refine (HS.out _ _ _ _ _).mono ?_; rintro e w2 ⟨rfl, hb2⟩; have HB2 := Lib.hid hb2; clear hb2))
      all_goals go_wp2
      all_goals
        go_roundw
        case rel => exact ⟨i + 1, by omega, by go_num, Lib.hid (hB.out.trans (by first | exact HB2.out.mono hB.out.size | exact (below_drewN (Below.refl _ _) _).trans (HB2.out.mono hB.out.size)))⟩
        case measure => simp [intOf]; omega
    · obtain rfl : i = ts.length := by omega
      go_wp2
      go_ret
      exact ⟨rfl, hB.out⟩

set_option maxHeartbeats 1000000 in
theorem sameToks_any (v1 v2 : Value) (s : ByteArray) (ts : List Tok) (w : World) (hn : ts.length ≤ 20000) (h1 : TokRow w v1 s ts) (h2 : TokRow w v2 s ts) :
    Calls Tryd.prog 12 #[v1, v2] w fun e w' => e = .returned (.bool true) ∧ Below w.heap.size w w' := by
  by_cases h0 : ts = []
  · have f : ∀ v, TokRow w v s ts → ∃ a c, v = .slice a 0 c := fun v h => by
      rcases h with ⟨rfl, _⟩ | ⟨g, cap, rfl, _, _, _⟩
      · exact ⟨_, _, rfl⟩
      · exact ⟨_, _, by rw [h0]; rfl⟩
    obtain ⟨a, c, rfl⟩ := f v1 h1
    obtain ⟨b, d, rfl⟩ := f v2 h2
    clear h1 h2 f
    go_enter Tryd.func12, Tryd.ntmps12
    go_wp2
    go_loopw [5] (fun vi wr => vi = .int .i64 0 ∧ Hid (Below w.heap.size w wr)) (fun _ _ => 0)
    case atStart => exact ⟨rfl, Lib.hid (Below.refl _ _)⟩
    case round =>
      obtain ⟨rfl, hB⟩ := hrel
      go_wp2
      go_ret
      exact ⟨rfl, hB.out⟩
  · rcases h1 with ⟨_, h⟩ | ⟨g1, c1, rfl, hg1, hc1, ht1⟩
    · exact absurd h h0
    · rcases h2 with ⟨_, h⟩ | ⟨g2, c2, rfl, hg2, hc2, ht2⟩
      · exact absurd h h0
      · exact sameToks_rows s ts g1 g2 c1 c2 w hn hc1 hc2 hg1 hg2 ht1 ht2
end Go.Proofs.YtnlpilceooncmaaDoor
