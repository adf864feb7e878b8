/- The document's vars, of a constructor, of a function. -/
import Derived.Test.YteoelcefjjmjiaaTyRVars
namespace Go.Proofs.Yteoelcefjjmjiaa
open Go.RowKit
attribute [local go_sem] Oper.semAt_some

set_option maxHeartbeats 800000 in
theorem rvars_plain (t : T) (H : ∀ k ∈ t.kids, RVarsOK k) (hk1 : ¬ t.kind = 1) (hk4 : ¬ t.kind = 4) (bd out : List ByteArray) (oa ba a : Option Addr) (oc bc c : Nat) (w : World) (ho : TextsAt w (.slice oa out.length oc) out) (hb : TextsAt w (.slice ba bd.length bc) bd) (ht : TysAt w (.slice a t.kids.length c) t.kids)
    (hol : out.length + tsize t ≤ 1000000) (hbl : bd.length + tsize t ≤ 1000000) :
    Calls Try.prog 35 #[.slice oa out.length oc, .slice ba bd.length bc, tyV t (.slice a t.kids.length c)] w fun e w' => (∃ v, e = .returned v ∧ TextsAt w' v (fvs bd out t.kids)) ∧ Below w.heap.size w w' := by
  have q1 : (t.kind == 1) = false := by simpa using hk1
  have q4 : (t.kind == 4) = false := by simpa using hk4
  have hz := tsize_eq t
  have hlen := len_sizes' t.kids
  have HBd := Lib.hid (fun o => (Below.refl _ w).alloc (Nat.le_refl _) o)
  have HR := Lib.hid ht.part
  have HS := Lib.hid H
  have HO := Lib.hid ho; have HBb := Lib.hid hb
  clear hk1 hk4 ht H ho hb
  simp only [tyV]
  go_enter Try.func35, Try.ntmps35
  go_wp2
  go_loopw [0, 7] (fun vo vi wr => ∃ (i : Nat) (b : Option Addr) (d n : Nat), i ≤ t.kids.length ∧ vi = .int .i64 i ∧ vo = .slice b n d ∧ Hid (n = (fvs bd out (t.kids.take i)).length ∧ TextsAt wr (.slice b n d) (fvs bd out (t.kids.take i)) ∧ Below w.heap.size w wr) ∧ Hid (TextsAt wr (.slice ba bd.length bc) bd) ∧ Hid (wr.heap[w.heap.size]? = some (.cells #[.int .i64 t.kind, .string t.name, .slice a t.kids.length c] 29 (0, 0)))) (fun _ vi _ => t.kids.length - (intOf vi).toNat)
  case atStart => exact ⟨0, oa, oc, out.length, Nat.zero_le _, rfl, rfl, Lib.hid ⟨by simp [fvs], by simpa [fvs] using HO.out.below (HBd.out _), HBd.out _⟩, Lib.hid (HBb.out.below (HBd.out _)), Lib.hid (alloc_new w _)⟩
  case round =>
    obtain ⟨i, ob, od, n, hi', rfl, rfl, hF, hBd, hBox⟩ := hrel
    obtain ⟨b0, b1, b2⟩ := three_cells hBox.out
    by_cases hlt : i < t.kids.length
    · obtain ⟨hn, hT, hBl⟩ := hF.out
      obtain ⟨g, pa, ca, rfl, hcap, hr⟩ := HR.out i hlt
      obtain ⟨⟨hg, x0, x1, x2⟩, xk⟩ := hr wr (KeepT.of_below hBl)
      have hsz := tsizes_take t.kids i hlt
      have hl1 := fvs_len (t.kids.take i) bd out
      have hkk := size_mem' (List.getElem_mem hlt)
      rw [hn] at hT ⊢
      have HC := Lib.hid (HS.out t.kids[i] (List.getElem_mem hlt) bd (fvs bd out (t.kids.take i)) ob ba pa od bc ca wr hT hBd.out xk (by omega) (by omega))
      rw [← fvs_drop bd out t.kids i hlt] at HC
      have HB1 := Lib.hid hBl
      clear hr xk hsz hl1 hkk HS HR hF hT hBl hn
      generalize t.kids[i] = u at x0 x1 x2 HC
      simp only [tyV] at HC
      have hlt1 : ((i : Int) < (t.kids.length : Int)) := by omega
      generalize (fvs bd out (t.kids.take i)).length = m at HC ⊢
      go_wp2_with (go_at_call 35; refine HC.out.mono ?_; rintro e w2 ⟨⟨v2, rfl, hT2⟩, hb2⟩; obtain ⟨oe, of, rfl⟩ := hT2.shape; have HF2 := Lib.hid (⟨hT2, HB1.out.trans (hb2.mono HB1.out.size)⟩ : TextsAt w2 (.slice oe (fvs bd out (t.kids.take (i + 1))).length of) (fvs bd out (t.kids.take (i + 1))) ∧ Below w.heap.size w w2); have HBd2 := Lib.hid (hBd.out.below hb2); have HBox2 := Lib.hid ((hb2.block _ (Array.getElem?_eq_some_iff.1 hBox.out).1).trans hBox.out); clear hT2 hb2)
      go_roundw
      case rel => exact ⟨i + 1, oe, of, _, by omega, by go_num, rfl, Lib.hid ⟨rfl, HF2.out⟩, HBd2, HBox2⟩
      case measure => simp [intOf]; omega
    · obtain rfl : i = t.kids.length := by omega
      rw [List.take_length] at hF
      clear HR HS
      go_wp2
      go_ret
      exact ⟨⟨_, rfl, hF.out.2.1⟩, hF.out.2.2⟩
end Go.Proofs.Yteoelcefjjmjiaa
