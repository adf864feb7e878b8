/- Plain: the variables among the parts of a made type; how long its text is. -/
import Derived.Test.YteoelcefjjmjiaaTyHas
import Derived.Test.YteoelcefjjmjiaaTyTexts
import Derived.Test.YteoelcefjjmjiaaTyBox
namespace Go.Proofs.Yteoelcefjjmjiaa
open Go.RowKit

noncomputable def seenStep (out : List ByteArray) (x : T) : List ByteArray := if x.kind = 1 then (if inB out x.name then out else out ++ [x.name]) else out
theorem seen_in {out : List ByteArray} {x : T} (h : x.kind = 1) (hb : inB out x.name = true) : seenStep out x = out := by unfold seenStep; rw [if_pos h, if_pos hb]
theorem seen_new {out : List ByteArray} {x : T} (h : x.kind = 1) (hb : inB out x.name = false) : seenStep out x = out ++ [x.name] := by unfold seenStep; rw [if_pos h, if_neg (by rw [hb]; decide)]
theorem seen_no {out : List ByteArray} {x : T} (h : ¬ x.kind = 1) : seenStep out x = out := by unfold seenStep; rw [if_neg h]
mutual
theorem seen_good (t : T) (h : T.Good t) (out : List ByteArray) : (parts t).foldl seenStep out = fv [] out t := by
  cases t with
  | var n =>
    rw [parts, fv]
    rw [List.foldl_cons, List.foldl_nil]
    cases hb : inB out n with
    | true => rw [seen_in (x := .var n) rfl hb, if_pos (.inr (inB_iff.1 hb))]
    | false => rw [seen_new (x := .var n) rfl hb, if_neg (fun e => e.elim (fun e => by cases e) (fun e => by rw [inB_iff.2 e] at hb; cases hb))]; rfl
  | con n l =>
    rw [T.Good] at h
    rw [parts, fv, List.foldl_cons]
    exact seens_good l h.2 out
  | fn a b =>
    rw [T.Good] at h
    rw [parts, fv, List.foldl_cons, List.foldl_append]
    show (parts b).foldl seenStep ((parts a).foldl seenStep out) = _
    rw [seen_good a h.1, seen_good b h.2]
  | all n a => rw [T.Good] at h; exact h.elim
theorem seens_good (l : List T) (h : T.Goods l) (out : List ByteArray) : (partss l).foldl seenStep out = fvs [] out l := by
  cases l with
  | nil => simp [partss, fvs]
  | cons a l =>
    rw [T.Goods] at h
    rw [partss, fvs, List.foldl_append, seen_good a h.1, seens_good l h.2]
end
theorem vname_pos {n : ByteArray} (h : n.data.toList ∈ T.vnames) : 1 ≤ n.data.toList.length ∧ n.size ≤ 4 := by
  rw [Lib.size_eq]
  simp [T.vnames] at h
  rcases h with h | h | h <;> rw [h] <;> decide
theorem cname_pos {n : ByteArray} (h : n.data.toList ∈ T.cnames) : 1 ≤ n.data.toList.length ∧ n.size ≤ 4 := by
  rw [Lib.size_eq]
  simp [T.cnames] at h
  rcases h with h | h | h | h <;> rw [h] <;> decide
theorem br_ge (b : Bool) (s : List UInt8) : s.length ≤ (T.br b s).length := by
  unfold T.br; split <;> simp <;> omega
mutual
theorem size_text (t : T) (h : T.Good t) : tsize t ≤ (T.text t).length := by
  cases t with
  | var n => rw [T.Good] at h; rw [tsize, T.text]; exact (vname_pos h).1
  | con n l =>
    rw [T.Good] at h
    rw [tsize, T.text, List.length_append]
    have := (cname_pos h.1).1
    have := sizes_text l h.2
    omega
  | fn a b =>
    rw [T.Good] at h
    rw [tsize, T.text]
    have := size_text a h.1; have := size_text b h.2; have := br_ge a.arrow a.text
    simp only [List.length_append, List.length_cons, List.length_nil]
    omega
  | all n a => rw [T.Good] at h; exact h.elim
theorem sizes_text (l : List T) (h : T.Goods l) : tsizes l ≤ (T.texts l).length := by
  cases l with
  | nil => simp [tsizes]
  | cons a l =>
    rw [T.Goods] at h
    rw [tsizes, T.texts_cons]
    have := size_text a h.1; have := sizes_text l h.2; have := br_ge a.wide a.text
    simp only [List.length_append, List.length_cons, List.length_nil, T.arg]
    omega
end
mutual
theorem good_nm (t : T) (h : T.Good t) : Nm t := by
  cases t with
  | var n => rw [T.Good] at h; exact .mk _ (by have := (vname_pos h).2; simp only [T.name]; omega) (fun k hk => by cases hk)
  | con n l => rw [T.Good] at h; exact .mk _ (by have := (cname_pos h.1).2; simp only [T.name]; omega) (fun k hk => goods_nm l h.2 k hk)
  | fn a b =>
    rw [T.Good] at h
    exact nm_fn (good_nm a h.1) (good_nm b h.2)
  | all n a => rw [T.Good] at h; exact h.elim
theorem goods_nm (l : List T) (h : T.Goods l) : ∀ k ∈ l, Nm k := by
  cases l with
  | nil => intro k hk; cases hk
  | cons a l =>
    rw [T.Goods] at h
    intro k hk
    rcases List.mem_cons.1 hk with e | hk
    · rw [e]; exact good_nm a h.1
    · exact goods_nm l h.2 k hk
end
theorem has_own {t : T} {n : ByteArray} (h : n ∈ fvs [] [] [t]) : hasT n t = true := by
  rw [fvs_mem] at h
  rcases h with h | ⟨_, h⟩
  · cases h
  · rw [hasTs, hasTs, Bool.or_false] at h; exact h
theorem fvs_one (t : T) : fvs [] [] [t] = fv [] [] t := by simp [fvs]
theorem seen_len (l : List T) (out : List ByteArray) : (l.foldl seenStep out).length ≤ out.length + l.length := by
  induction l generalizing out with
  | nil => simp
  | cons a l ih =>
    rw [List.foldl_cons]
    have := ih (seenStep out a)
    have h2 : (seenStep out a).length ≤ out.length + 1 := by unfold seenStep; split; split; omega; simp; omega
    simp only [List.length_cons]
    omega
end Go.Proofs.Yteoelcefjjmjiaa
