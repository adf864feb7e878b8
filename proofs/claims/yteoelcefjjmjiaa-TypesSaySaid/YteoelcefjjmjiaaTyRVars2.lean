/- The document's Vars. -/
import Derived.Test.YteoelcefjjmjiaaTyRPlain
import Derived.Test.YteoelcefjjmjiaaTyRAllQ
namespace Go.Proofs.Yteoelcefjjmjiaa
open Go.RowKit
attribute [local go_sem] Oper.semAt_some

theorem rvars_any (t : T) : RVarsOK t := by
  refine T.by_kids (P := RVarsOK) (fun t H => ?_) t
  have hz := tsize_eq t
  intro bd out oa ba a oc bc c w ho hb ht hol hbl
  cases t with
  | var n =>
    refine (rvars_var (.var n) rfl rfl bd out oa ba a oc bc c w ho hb (by omega) (by omega) (by omega)).mono ?_
    rintro e w' ⟨⟨v, rfl, h⟩, hb'⟩
    refine ⟨⟨v, rfl, ?_⟩, hb'⟩
    rw [fv]
    by_cases hx : n ∈ bd ∨ n ∈ out
    · rw [if_pos hx]; rw [if_pos (hx.elim (fun e => .inr (inB_iff.2 e)) (fun e => .inl (inB_iff.2 e)))] at h; exact h
    · rw [if_neg hx]; rw [if_neg (fun e => hx (e.elim (fun e => .inr (inB_iff.1 e)) (fun e => .inl (inB_iff.1 e))))] at h; exact h
  | con n l => rw [fv]; exact rvars_plain (.con n l) H (by simp [T.kind]) (by simp [T.kind]) bd out oa ba a oc bc c w ho hb ht hol hbl
  | fn x y =>
    have e : fv bd out (.fn x y) = fvs bd out (T.fn x y).kids := by simp [fv, T.kids, fvs]
    rw [e]
    exact rvars_plain (.fn x y) H (by simp [T.kind]) (by simp [T.kind]) bd out oa ba a oc bc c w ho hb ht hol hbl
  | all n x =>
    have e : fv bd out (.all n x) = fvs (bd ++ [(T.all n x).name]) out (T.all n x).kids := by
      simp only [fv, T.kids, fvs, T.name]
      exact fv_congr x _ _ out (fun y => by simp only [List.mem_cons, List.mem_append, List.not_mem_nil, or_false]; exact Or.comm)
    rw [e]
    exact rvars_all (.all n x) H rfl bd out oa ba a oc bc c w ho hb ht hol hbl

set_option maxHeartbeats 2000000 in
theorem rVars_any (l : List T) (hs : tsizes l ≤ 100000) (a : Option Addr) (c : Nat) (w : World) (ht : TysAt w (.slice a l.length c) l) :
    Calls Try.prog 12 #[.slice a l.length c] w fun e w' => (∃ v, e = .returned v ∧ TextsAt w' v (fvs [] [] l)) ∧ Below w.heap.size w w' := by
  have hlen := len_sizes' l
  have HR := Lib.hid ht.part
  clear ht
  go_enter Try.func12, Try.ntmps12
  go_wp2
  go_loopw [3, 4] (fun vo vi wr => ∃ (i : Nat) (b : Option Addr) (d n : Nat), i ≤ l.length ∧ vi = .int .i64 i ∧ vo = .slice b n d ∧ Hid (n = (fvs [] [] (l.take i)).length ∧ TextsAt wr (.slice b n d) (fvs [] [] (l.take i)) ∧ Below w.heap.size w wr)) (fun _ vi _ => l.length - (intOf vi).toNat)
  case atStart => exact ⟨0, none, 0, 0, Nat.zero_le _, rfl, rfl, Lib.hid ⟨by simp [fvs], ⟨none, 0, by simp [fvs], .inl (by simp [fvs])⟩, Below.refl _ _⟩⟩
  case round =>
    obtain ⟨i, ob, od, n, hi', rfl, rfl, hF⟩ := hrel
    by_cases hlt : i < l.length
    · obtain ⟨hn, hT, hBl⟩ := hF.out
      obtain ⟨g, pa, ca, rfl, hcap, hr⟩ := HR.out i hlt
      obtain ⟨⟨hg, x0, x1, x2⟩, xk⟩ := hr wr (KeepT.of_below hBl)
      have hsz := tsizes_take l i hlt
      have hl1 := fvs_len (l.take i) [] []
      have hkk := size_mem' (List.getElem_mem hlt)
      rw [hn] at hT ⊢
      simp only [List.length_nil] at hl1
      have HC := Lib.hid (rvars_any l[i] [] (fvs [] [] (l.take i)) ob none pa od 0 ca wr hT ⟨none, 0, rfl, .inl rfl⟩ xk (by omega) (by simp only [List.length_nil]; omega))
      rw [← fvs_drop [] [] l i hlt] at HC
      have HB1 := Lib.hid hBl
      clear hr xk hsz hl1 hkk HR hF hT hBl hn
      generalize l[i] = u at x0 x1 x2 HC
      simp only [tyV, List.length_nil] at HC
      have hlt1 : ((i : Int) < (l.length : Int)) := by omega
      generalize (fvs [] [] (l.take i)).length = m at HC ⊢
      go_wp2_with (go_at_call 35; refine HC.out.mono ?_; rintro e w2 ⟨⟨v2, rfl, hT2⟩, hb2⟩; obtain ⟨oe, of, rfl⟩ := hT2.shape; have HF2 := Lib.hid (⟨hT2, HB1.out.trans (hb2.mono HB1.out.size)⟩ : TextsAt w2 (.slice oe (fvs [] [] (l.take (i + 1))).length of) (fvs [] [] (l.take (i + 1))) ∧ Below w.heap.size w w2); clear hT2 hb2)
      go_roundw
      case rel => exact ⟨i + 1, oe, of, _, by omega, by go_num, rfl, Lib.hid ⟨rfl, HF2.out⟩⟩
      case measure => simp [intOf]; omega
    · obtain rfl : i = l.length := by omega
      rw [List.take_length] at hF
      clear HR
      go_wp2
      go_ret
      exact ⟨⟨_, rfl, hF.out.2.1⟩, hF.out.2.2⟩
end Go.Proofs.Yteoelcefjjmjiaa
