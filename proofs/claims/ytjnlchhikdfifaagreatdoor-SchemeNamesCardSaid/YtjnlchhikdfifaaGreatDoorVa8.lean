/- Merged: GvTi, GvTj, GvTk, RegTail, SbRPreds, FrS, SfB, NmA, NmT, NmRa, NmRb, NmRt. -/
import Derived.Test.YtjnlchhikdfifaaGreatDoorVa7
import Derived.Test.YtjnlchhikdfifaaGreatDoorVa3
import Derived.Test.YtjnlchhikdfifaaGreatDoorVa4
import Derived.Deep.RegionLaw
/- SchemeNames: plain facts: renamed, and in another order, a scheme has the same plain form; the plain form stays. -/
namespace Go.Proofs.YtjnlchhikdfifaaGreatDoor
open Go.RowKit Go.Sort Go.Lib
attribute [local go_sem] Oper.semAt_some

theorem inj_map {f : ByteArray → ByteArray} : ∀ (L : List ByteArray), (L.map f).Nodup → ∀ x y, x ∈ L → y ∈ L → f x = f y → x = y
  | [], _, _, _, h, _, _ => nomatch h
  | a :: L, hn, x, y, hx, hy, e => by
    obtain ⟨h1, h2⟩ := List.nodup_cons.1 hn
    rcases List.mem_cons.1 hx with hxa | hx'
    · rcases List.mem_cons.1 hy with hya | hy'
      · rw [hxa, hya]
      · exact absurd (List.mem_map.2 ⟨y, hy', by rw [← e, hxa]⟩) h1
    · rcases List.mem_cons.1 hy with hya | hy'
      · exact absurd (List.mem_map.2 ⟨x, hx', by rw [e, hya]⟩) h1
      · exact inj_map L h2 x y hx' hy' e
/-- What the names are put in for. -/
noncomputable def nmOf (L zn : List ByteArray) (y : ByteArray) : ByteArray := (ty y (prs L zn)).name
theorem nmOf_at : ∀ (L zn : List ByteArray), zn.length = L.length → L.Nodup → L.map (nmOf L zn) = zn ∧ ∀ y ∈ L, ty y (prs L zn) = .var (nmOf L zn y)
  | [], [], _, _ => ⟨rfl, fun _ h => nomatch h⟩
  | [], _ :: _, h, _ => by simp at h
  | _ :: _, [], h, _ => by simp at h
  | f :: L, g :: zn, hl, hn => by
    obtain ⟨h1, h2⟩ := List.nodup_cons.1 hn
    obtain ⟨k1, k2⟩ := nmOf_at L zn (by simpa using hl) h2
    have hf : ty f (prs (f :: L) (g :: zn)) = .var g := by rw [prs, ty_cons, if_pos rfl]
    have hr : ∀ y ∈ L, ty y (prs (f :: L) (g :: zn)) = ty y (prs L zn) := fun y hy => by
      rw [prs, ty_cons, if_neg (fun e : f = y => h1 (e ▸ hy))]
    refine ⟨?_, fun y hy => ?_⟩
    · rw [List.map_cons, show nmOf (f :: L) (g :: zn) f = g by unfold nmOf; rw [hf]; rfl, List.map_congr_left (g := nmOf L zn) fun y hy => by unfold nmOf; rw [hr y hy], k1]
    · rcases List.mem_cons.1 hy with rfl | hy
      · rw [show nmOf (y :: L) (g :: zn) y = g by unfold nmOf; rw [hf]; rfl]; exact hf
      · rw [hr y hy, k2 y hy]; unfold nmOf; rw [hr y hy]
theorem ty_map {ρ : ByteArray → ByteArray} : ∀ (L zn : List ByteArray), (∀ x y, x ∈ L → y ∈ L → ρ x = ρ y → x = y) → ∀ x ∈ L, zn.length = L.length → ty (ρ x) (prs (L.map ρ) zn) = ty x (prs L zn)
  | [], _, _, _, h, _ => nomatch h
  | _ :: _, [], _, _, _, h => by simp at h
  | f :: L, g :: zn, hi, x, hx, hl => by
    rw [List.map_cons, prs, prs, ty_cons, ty_cons]
    by_cases e : f = x
    · subst e; rw [if_pos rfl, if_pos rfl]
    · have hx' : x ∈ L := (List.mem_cons.1 hx).resolve_left fun q => e q.symm
      rw [if_neg e, if_neg (fun q => e (hi f x (List.mem_cons_self ..) hx q))]
      exact ty_map L zn (fun a b ha hb => hi a b (List.mem_cons_of_mem _ ha) (List.mem_cons_of_mem _ hb)) x hx' (by simpa using hl)
/-- All is bound. -/
def ClosedBy (t : T) (lc : List Pr) (F : List ByteArray) : Prop := ∀ u ∈ t :: lc.map (·.2), ∀ x ∈ vs u, x ∈ F
theorem ClosedBy.mem {t : T} {lc l1 : List Pr} {F : List ByteArray} (h : ClosedBy t lc F) (hm : ∀ q ∈ l1, q ∈ lc) : ClosedBy t l1 F := fun u hu => by
  rcases List.mem_cons.1 hu with rfl | hu
  · exact h _ (List.mem_cons_self ..)
  · obtain ⟨q, hq, rfl⟩ := List.mem_map.1 hu
    exact h _ (List.mem_cons_of_mem _ (List.mem_map.2 ⟨q, hm q hq, rfl⟩))
theorem closed_bs {V : List ByteArray} {t : T} {lc : List Pr} {F : List ByteArray} (hok : SOK V t lc) (h : ClosedBy t lc F) : bsOf t lc F = fvs [] [] (t :: lc.map (·.2)) ∧ osOf t lc F = [] := by
  have hin : ∀ n ∈ fvs [] [] (t :: lc.map (·.2)), inB F n = true := fun n hn => by
    obtain ⟨u, hu, hx⟩ := (hok.all.1 n).1 hn
    exact inB_iff.2 (h u hu n hx)
  exact ⟨List.filter_eq_self.2 hin, List.filter_eq_nil_iff.2 fun n hn => by rw [hin n hn]; decide⟩
theorem sok_plain {V : List ByteArray} {t : T} {lc : List Pr} (hok : SOK V t lc) : ∀ u ∈ t :: lc.map (·.2), Plain3 u := fun u hu => (hok.2.2 u hu).1
/-- What Canon makes of a scheme whose variables are all bound. -/
theorem canP_closed {V : List ByteArray} {t : T} {lc : List Pr} {F zl : List ByteArray} {u : T} {l2 : List Pr} (hok : SOK V t lc) (hF : ClosedBy t lc F) (h : CanP t lc F zl u l2) :
    ∃ l1 L, SrtP l1 ∧ (∀ q, q ∈ l1 ↔ q ∈ lc) ∧ SOK V t l1 ∧ L = addAll (addAll [] (vs t)) (cs l1) ∧ L.Nodup ∧ (∀ n, n ∈ L ↔ ∃ v ∈ t :: l1.map (·.2), n ∈ vs v) ∧ NewX L.length [] zl ∧ u = app (prs L zl) t ∧ SrtP l2 ∧ ∀ q, q ∈ l2 ↔ q ∈ appP (prs L zl) l1 := by
  obtain ⟨l1, h1, h2, h3, h4, h5, h6⟩ := h
  have hok1 := hok.same (fun q k => (h2 q).1 k) (Nat.le_trans (srtP_len h1 fun q k => (h2 q).1 k) hok.2.1)
  obtain ⟨b1, b2⟩ := closed_bs hok1 (hF.mem fun q k => (h2 q).1 k)
  rw [b1, b2] at h3
  rw [b1] at h4 h6
  refine ⟨l1, _, h1, h2, hok1, fvs_ctx (sok_plain hok1), fvs_nodups _ [] [] List.nodup_nil, hok1.all.1, h3, h4, h5, h6⟩
theorem mem_cs {l : List Pr} {x : ByteArray} : x ∈ cs l ↔ ∃ q ∈ l, x ∈ vs q.2 := List.mem_flatMap
theorem names_same {V V' : List ByteArray} {t : T} {lc lc' : List Pr} {F F' zl yl : List ByteArray} {u v : T} {l2 m2 : List Pr} {σ : Sg} {ρ : ByteArray → ByteArray} (hok : SOK V t lc) (hok' : SOK V' (sub σ t) lc') (hF : ClosedBy t lc F) (hF' : ClosedBy (sub σ t) lc' F')
    (hσ : ∀ x ∈ vs t, σ x = .var (ρ x)) (hρ : ∀ x y, x ∈ vs t → y ∈ vs t → ρ x = ρ y → x = y) (hlc : ∀ q, q ∈ lc' ↔ ∃ q0 ∈ lc, q = (q0.1, sub σ q0.2)) (hin : ∀ q ∈ lc, ∀ x ∈ vs q.2, x ∈ vs t)
    (h : CanP t lc F zl u l2) (h' : CanP (sub σ t) lc' F' yl v m2) : zl = yl ∧ u = v ∧ l2 = m2 := by
  obtain ⟨l1, L, a1, a2, a3, a4, a5, a6, a7, a8, a9, a10⟩ := canP_closed hok hF h
  obtain ⟨m1, M, c1, c2, c3, c4, c5, c6, c7, c8, c9, c10⟩ := canP_closed hok' hF' h'
  have hL : L = addAll [] (vs t) := by
    rw [a4]
    refine addAll_seen _ _ fun x hx => ?_
    obtain ⟨q, hq, hx⟩ := mem_cs.1 hx
    exact (addAll_mem _ _ x).2 (.inr (hin q ((a2 q).1 hq) x hx))
  have hvt : vs (sub σ t) = (vs t).map ρ := vs_ren t hσ
  have hM : M = L.map ρ := by
    rw [c4, addAll_seen _ _ fun x hx => ?_, hvt, hL]
    · have := addAll_map (f := ρ) (vs t) [] fun x y hx hy => hρ x y (hx.resolve_left fun e => nomatch e) (hy.resolve_left fun e => nomatch e)
      exact this
    · obtain ⟨q, hq, hx⟩ := mem_cs.1 hx
      obtain ⟨q0, h0, rfl⟩ := (hlc q).1 ((c2 q).1 hq)
      refine (addAll_mem _ _ x).2 (.inr ?_)
      obtain ⟨y, hy, hx⟩ := (vs_sub q0.2).1 hx
      exact (vs_sub t).2 ⟨y, hin q0 h0 y hy, hx⟩
  have hLv : ∀ x, x ∈ L ↔ x ∈ vs t := fun x => by rw [hL, addAll_mem]; simp
  have hz : zl = yl := by
    rw [hM, List.length_map] at c7
    exact newX_one (fun _ => Iff.rfl) a7 c7
  subst hz
  have hzl : zl.length = L.length := a7.1.1
  have hty : ∀ x ∈ vs t, ty (ρ x) (prs (L.map ρ) zl) = ty x (prs L zl) := fun x hx => ty_map L zl (fun a b ha hb => hρ a b ((hLv a).1 ha) ((hLv b).1 hb)) x ((hLv x).2 hx) hzl
  have hap : ∀ s : T, (∀ x ∈ vs s, x ∈ vs t) → app (prs M zl) (sub σ s) = app (prs L zl) s := fun s hs => by
    rw [app_sub, app_sub, sub_sub, hM]
    refine sub_ext s fun x hx => ?_
    rw [hσ x (hs x hx), sub]
    exact hty x (hs x hx)
  refine ⟨rfl, by rw [a8, c8, hap t fun x hx => hx], srtP_one a9 c9 fun q => ?_⟩
  rw [a10, c10]
  unfold appP
  simp only [List.mem_map]
  constructor
  · rintro ⟨q0, h0, rfl⟩
    refine ⟨(q0.1, sub σ q0.2), (c2 _).2 ((hlc _).2 ⟨q0, (a2 q0).1 h0, rfl⟩), ?_⟩
    show (q0.1, app (prs M zl) (sub σ q0.2)) = _
    rw [hap q0.2 (hin q0 ((a2 q0).1 h0))]
  · rintro ⟨q1, h1, rfl⟩
    obtain ⟨q0, h0, rfl⟩ := (hlc q1).1 ((c2 q1).1 h1)
    refine ⟨q0, (a2 q0).2 h0, ?_⟩
    show _ = (q0.1, app (prs M zl) (sub σ q0.2))
    rw [hap q0.2 (hin q0 h0)]
end Go.Proofs.YtjnlchhikdfifaaGreatDoor
/- SchemeNames: plain facts: the plain form stays as it is. -/
namespace Go.Proofs.YtjnlchhikdfifaaGreatDoor
open Go.RowKit Go.Sort Go.Lib
attribute [local go_sem] Oper.semAt_some

/-- What Canon hands back is a scheme all of whose variables are its own. -/
theorem canP_sok {V : List ByteArray} {t : T} {lc : List Pr} {F zl : List ByteArray} {u : T} {l2 : List Pr} (hok : SOK V t lc) (hF : ClosedBy t lc F) (h : CanP t lc F zl u l2) : SOK zl u l2 ∧ ClosedBy u l2 zl := by
  have hsz := canP_ok hok h
  obtain ⟨l1, L, a1, a2, a3, a4, a5, a6, a7, a8, a9, a10⟩ := canP_closed hok hF h
  obtain ⟨k1, k2⟩ := nmOf_at L zl a7.1.1 a5
  have hone : ∀ s ∈ t :: l1.map (·.2), TOK zl (app (prs L zl) s) := fun s hs => by
    have hs' := a3.2.2 s hs
    have hx : ∀ x ∈ vs s, ty x (prs L zl) = .var (nmOf L zl x) := fun x hx => k2 x ((a6 x).2 ⟨s, hs, hx⟩)
    have hz : ∀ x ∈ vs s, nmOf L zl x ∈ zl := fun x hx => by
      have : nmOf L zl x ∈ L.map (nmOf L zl) := List.mem_map.2 ⟨x, (a6 x).2 ⟨s, hs, hx⟩, rfl⟩
      rw [k1] at this; exact this
    rw [app_sub]
    refine ⟨plain_sub s hs'.1 fun y hy => ?_, nm_sub s hs'.2.1 fun y hy => ?_, ?_, fun n hn => ?_⟩
    · rw [hx y hy]; exact .mk _ (by simp [T.kind]) (fun k hk => by cases hk)
    · rw [hx y hy]; exact .mk _ (by have := (a7.1.2.2 _ (hz y hy)).2; show (nmOf L zl y).size ≤ 1000; omega) (fun k hk => by cases hk)
    · rw [size_subV s fun y hy => ⟨_, hx y hy⟩]; exact hs'.2.2.1
    · rw [vs_ren s hx] at hn
      obtain ⟨x, h1, rfl⟩ := List.mem_map.1 hn
      exact hz x h1
  have hall : ∀ s ∈ u :: l2.map (·.2), TOK zl s := fun s hs => by
    rcases List.mem_cons.1 hs with rfl | hs
    · rw [a8]; exact hone t (List.mem_cons_self ..)
    · obtain ⟨q, hq, rfl⟩ := List.mem_map.1 hs
      obtain ⟨q0, h0, rfl⟩ := List.mem_map.1 ((a10 q).1 hq)
      exact hone q0.2 (List.mem_cons_of_mem _ (List.mem_map.2 ⟨q0, h0, rfl⟩))
  exact ⟨⟨⟨hsz.2.2.2, fun n hn => by have := (a7.1.2.2 n hn).2; omega⟩, hsz.2.2.1, hall⟩, fun s hs x hx => (hall s hs).2.2.2 x hx⟩
/-- A type that is a variable, or holds none. -/
def LeafT (s : T) : Prop := (∃ x, s = .var x) ∨ vs s = []
open Classical in
/-- The new ones, as they come. -/
noncomputable def newsL : List ByteArray → List ByteArray → List ByteArray
  | _, [] => []
  | out, x :: xs => if x ∈ out then newsL out xs else x :: newsL (out ++ [x]) xs
theorem newsL_add : ∀ (xs out : List ByteArray), addAll out xs = out ++ newsL out xs
  | [], out => by simp [addAll_nil, newsL]
  | x :: xs, out => by
    rw [addAll_cons, addV, newsL]
    by_cases e : x ∈ out
    · rw [if_pos e, if_pos e, newsL_add xs out]
    · rw [if_neg e, if_neg e, newsL_add xs (out ++ [x]), List.append_assoc]; rfl
theorem newsL_mem : ∀ (xs out : List ByteArray) (y : ByteArray), y ∈ newsL out xs ↔ y ∈ xs ∧ y ∉ out
  | [], out, y => by simp [newsL]
  | x :: xs, out, y => by
    rw [newsL]
    by_cases e : x ∈ out
    · rw [if_pos e, newsL_mem xs out y, List.mem_cons]
      exact ⟨fun h => ⟨.inr h.1, h.2⟩, fun h => ⟨h.1.resolve_left fun q => h.2 (q ▸ e), h.2⟩⟩
    · rw [if_neg e, List.mem_cons, newsL_mem xs _ y, List.mem_cons, List.mem_append, List.mem_singleton]
      constructor
      · rintro (rfl | h)
        · exact ⟨.inl rfl, e⟩
        · exact ⟨.inr h.1, fun q => h.2 (.inl q)⟩
      · rintro ⟨rfl | h, k⟩
        · exact .inl rfl
        · by_cases q : y = x
          · exact .inl q
          · exact .inr ⟨h, fun r => r.elim k q⟩
theorem newsL_map {f : ByteArray → ByteArray} (xs out : List ByteArray) (h : ∀ x y, (x ∈ out ∨ x ∈ xs) → (y ∈ out ∨ y ∈ xs) → f x = f y → x = y) : newsL (out.map f) (xs.map f) = (newsL out xs).map f := by
  have := addAll_map (f := f) xs out h
  rw [newsL_add, newsL_add, List.map_append] at this
  exact List.append_cancel_left this
def ltQ (p q : Pr) : Prop := orI (cmpL p.1.data.toList q.1.data.toList) (cmpT p.2 q.2) < 0
/-- In a context in order, of two new variables the first one stands in a predicate that is less than each of the other one's. -/
theorem news_less : ∀ (l : List Pr) (out : List ByteArray), l.Pairwise ltQ → (∀ q ∈ l, LeafT q.2) → (newsL out (cs l)).Pairwise fun x y => ∃ C, (C, T.var x) ∈ l ∧ ∀ C', (C', T.var y) ∈ l → ltQ (C, .var x) (C', .var y)
  | [], out, _, _ => by simp [cs, newsL]
  | q :: l, out, hs, hl => by
    obtain ⟨h1, h2⟩ := List.pairwise_cons.1 hs
    have hl' : ∀ q ∈ l, LeafT q.2 := fun p hp => hl p (List.mem_cons_of_mem _ hp)
    have hcs : cs (q :: l) = vs q.2 ++ cs l := rfl
    rw [hcs]
    -- what is new wrt a list that holds the head's variable
    have step : ∀ o : List ByteArray, (∀ y, y ∉ o → ∀ C', (C', T.var y) ∈ q :: l → (C', T.var y) ∈ l) → (newsL o (cs l)).Pairwise fun x y => ∃ C, (C, T.var x) ∈ q :: l ∧ ∀ C', (C', T.var y) ∈ q :: l → ltQ (C, .var x) (C', .var y) := fun o ho => by
      refine List.Pairwise.imp_of_mem (fun {x y} _ hy hxy => ?_) (news_less l o h2 hl')
      obtain ⟨C, hC, hlt⟩ := hxy
      exact ⟨C, List.mem_cons_of_mem _ hC, fun C' hC' => hlt C' (ho y ((newsL_mem _ _ y).1 hy).2 C' hC')⟩
    rcases hl q (List.mem_cons_self ..) with ⟨x0, hx0⟩ | hv
    · have hne : ∀ y, y ≠ x0 → ∀ C', (C', T.var y) ∈ q :: l → (C', T.var y) ∈ l := fun y hy C' hC' => by
        rcases List.mem_cons.1 hC' with e | h
        · have := congrArg Prod.snd e; rw [hx0] at this; cases this; exact absurd rfl hy
        · exact h
      rw [hx0, vs, List.singleton_append, newsL]
      by_cases e : x0 ∈ out
      · rw [if_pos e]
        exact step out fun y hy => hne y fun q => hy (q ▸ e)
      · rw [if_neg e]
        refine List.pairwise_cons.2 ⟨fun y hy => ⟨q.1, ?_, fun C' hC' => ?_⟩, step _ fun y hy => hne y fun q => hy (List.mem_append.2 (.inr (by rw [q]; exact List.mem_singleton_self _)))⟩
        · rw [← hx0]; exact List.mem_cons_self ..
        · have hy' := ((newsL_mem _ _ y).1 hy).2
          have hm := hne y (fun q => hy' (List.mem_append.2 (.inr (by rw [q]; exact List.mem_singleton_self _)))) C' hC'
          have := h1 _ hm
          rw [show q = (q.1, T.var x0) by rw [← hx0]] at this
          exact this
    · rw [hv, List.nil_append]
      refine step out fun y _ C' hC' => ?_
      rcases List.mem_cons.1 hC' with e | h
      · have := congrArg Prod.snd e; rw [← this] at hv; simp [vs] at hv
      · exact h
end Go.Proofs.YtjnlchhikdfifaaGreatDoor
/- SchemeNames: the plain form of a plain form. -/
namespace Go.Proofs.YtjnlchhikdfifaaGreatDoor
open Go.RowKit Go.Sort Go.Lib
attribute [local go_sem] Oper.semAt_some

def ltN (x y : ByteArray) : Prop := cmpL x.data.toList y.data.toList < 0
theorem ltN_asymm (x y : ByteArray) (h : ltN x y) : ¬ ltN y x := fun k => by
  unfold ltN at h k; rw [cmpL_neg] at k; omega
theorem ltN_tri {x y : ByteArray} (h : x ≠ y) : ltN x y ∨ ltN y x := by
  unfold ltN
  rw [cmpL_neg x.data.toList y.data.toList]
  have : cmpL x.data.toList y.data.toList ≠ 0 := fun e => h (by
    have := cmpL_zero.1 e
    cases x; cases y; congr; exact Array.toList_inj.1 this)
  omega
theorem nameAt_lt {a b : Nat} (h : a < b) (hb : b < 100) : ltN (nameAt a) (nameAt b) := by
  have e1 : (UInt8.ofNat (97 + a)).toNat = 97 + a := by simp only [UInt8.toNat_ofNat']; omega
  have e2 : (UInt8.ofNat (97 + b)).toNat = 97 + b := by simp only [UInt8.toNat_ofNat']; omega
  unfold ltN nameAt
  show orI (sgn (UInt8.ofNat (97 + a)).toNat (UInt8.ofNat (97 + b)).toNat) 0 < 0
  rw [e1, e2]
  unfold orI sgn
  (repeat' split) <;> omega
theorem newsTo_lt (tk : List ByteArray) (i : Nat) (hi : i ≤ 100) : (newsTo tk i).Pairwise ltN := by
  refine List.Pairwise.filter _ ?_
  rw [List.pairwise_map]
  exact List.Pairwise.imp_of_mem (fun {a b} _ hb hab => nameAt_lt hab (by have := List.mem_range.1 hb; omega)) List.pairwise_lt_range
theorem ltQ_var (C D x y : ByteArray) : ltQ (C, .var x) (D, .var y) ↔ ltN C D ∨ (C = D ∧ ltN x y) := by
  have hT : cmpT (.var x) (.var y) = cmpL x.data.toList y.data.toList := by
    rw [cmpT_eq]
    simp only [T.kind, T.name, T.kids, List.length_nil, cmpTs]
    unfold orI sgn
    (repeat' split) <;> omega
  unfold ltQ ltN
  rw [hT]
  by_cases e : cmpL C.data.toList D.data.toList = 0
  · have hCD : C = D := by
      have := cmpL_zero.1 e
      cases C; cases D; congr; exact Array.toList_inj.1 this
    rw [orI, if_pos e]
    exact ⟨fun h => .inr ⟨hCD, h⟩, fun h => h.elim (fun h => absurd h (by omega)) fun h => h.2⟩
  · rw [orI, if_neg e]
    exact ⟨.inl, fun h => h.elim id fun h => absurd (by rw [h.1]; exact cmpL_zero.2 rfl) e⟩
theorem pairwise_or {α : Type} {Q : α → α → Prop} : ∀ (l : List α), l.Pairwise Q → ∀ x y, x ∈ l → y ∈ l → x ≠ y → Q x y ∨ Q y x
  | [], _, _, _, h, _, _ => nomatch h
  | a :: l, hp, x, y, hx, hy, hne => by
    obtain ⟨h1, h2⟩ := List.pairwise_cons.1 hp
    rcases List.mem_cons.1 hx with hxa | hx'
    · rcases List.mem_cons.1 hy with hya | hy'
      · exact absurd (hxa.trans hya.symm) hne
      · rw [hxa]; exact .inl (h1 y hy')
    · rcases List.mem_cons.1 hy with hya | hy'
      · rw [hya]; exact .inr (h1 x hx')
      · exact pairwise_or l h2 x y hx' hy' hne
theorem ty_self : ∀ (L : List ByteArray) (y : ByteArray), ty y (prs L L) = .var y
  | [], y => by rw [prs]; exact ty_nil y; simp
  | a :: L, y => by
    rw [prs, ty_cons]
    by_cases e : a = y
    · rw [if_pos e, e]
    · rw [if_neg e]; exact ty_self L y
theorem canon_again {V : List ByteArray} {t : T} {lc : List Pr} {F zl yl : List ByteArray} {u v : T} {l2 m2 : List Pr} (hok : SOK V t lc) (hF : ClosedBy t lc F) (hleaf : ∀ q ∈ lc, LeafT q.2) (h : CanP t lc F zl u l2) (h' : CanP u l2 zl yl v m2) : yl = zl ∧ v = u ∧ m2 = l2 := by
  obtain ⟨hok2, hF2⟩ := canP_sok hok hF h
  obtain ⟨l1, L, a1, a2, a3, a4, a5, a6, a7, a8, a9, a10⟩ := canP_closed hok hF h
  obtain ⟨m1, M, c1, c2, c3, c4, c5, c6, c7, c8, c9, c10⟩ := canP_closed hok2 hF2 h'
  obtain rfl : l2 = m1 := (srtP_one c1 a9 c2).symm
  obtain ⟨k1, k2⟩ := nmOf_at L zl a7.1.1 a5
  obtain ⟨f, hf⟩ : ∃ f, nmOf L zl = f := ⟨_, rfl⟩
  rw [hf] at k1 k2
  have finj : ∀ x y, x ∈ L → y ∈ L → f x = f y → x = y := inj_map L (by rw [k1]; exact a7.1.2.1)
  have hleaf1 : ∀ q ∈ l1, LeafT q.2 := fun q hq => hleaf q ((a2 q).1 hq)
  have hLt : ∀ x, x ∈ vs t → x ∈ L := fun x hx => (a6 x).2 ⟨t, List.mem_cons_self .., hx⟩
  have hLc : ∀ q ∈ l1, ∀ x ∈ vs q.2, x ∈ L := fun q hq x hx => (a6 x).2 ⟨q.2, List.mem_cons_of_mem _ (List.mem_map.2 ⟨q, hq, rfl⟩), hx⟩
  have hvu : vs u = (vs t).map f := by rw [a8, app_sub]; exact vs_ren t fun x hx => k2 x (hLt x hx)
  have hvq : ∀ q ∈ l1, vs (app (prs L zl) q.2) = (vs q.2).map f := fun q hq => by rw [app_sub]; exact vs_ren q.2 fun x hx => k2 x (hLc q hq x hx)
  -- the variables of the type
  obtain ⟨A, hA⟩ : ∃ A, addAll [] (vs t) = A := ⟨_, rfl⟩
  have hAu : addAll [] (vs u) = A.map f := by
    rw [hvu, ← hA]
    exact addAll_map (f := f) (vs t) [] fun x y hx hy => finj x y (hLt x (hx.resolve_left fun e => nomatch e)) (hLt y (hy.resolve_left fun e => nomatch e))
  have hAL : ∀ x, x ∈ A → x ∈ L := fun x hx => by
    rw [← hA, addAll_mem] at hx
    exact hLt x (hx.resolve_left fun e => nomatch e)
  obtain ⟨R, hR⟩ : ∃ R, newsL A (cs l1) = R := ⟨_, rfl⟩
  have hL : L = A ++ R := by rw [a4, hA, newsL_add, hR]
  have hzl : zl = A.map f ++ R.map f := by rw [← k1, hL, List.map_append]
  obtain ⟨R', hR'⟩ : ∃ R', newsL (A.map f) (cs l2) = R' := ⟨_, rfl⟩
  have hM : M = A.map f ++ R' := by rw [c4, hAu, newsL_add, hR']
  have hcs1 : ∀ x, x ∈ cs l1 → x ∈ L := fun x hx => by obtain ⟨q, hq, hx⟩ := mem_cs.1 hx; exact hLc q hq x hx
  have hcs2 : ∀ y', y' ∈ cs l2 ↔ ∃ y ∈ cs l1, f y = y' := fun y' => by
    rw [mem_cs]
    constructor
    · rintro ⟨q, hq, hy⟩
      obtain ⟨q0, h0, rfl⟩ := List.mem_map.1 ((a10 q).1 hq)
      have hy : y' ∈ vs (app (prs L zl) q0.2) := hy
      rw [hvq q0 h0] at hy
      obtain ⟨y, hy, e⟩ := List.mem_map.1 hy
      exact ⟨y, mem_cs.2 ⟨q0, h0, hy⟩, e⟩
    · rintro ⟨y, hy, rfl⟩
      obtain ⟨q0, h0, hy⟩ := mem_cs.1 hy
      refine ⟨(q0.1, app (prs L zl) q0.2), (a10 _).2 (List.mem_map.2 ⟨q0, h0, rfl⟩), ?_⟩
      show f y ∈ vs (app (prs L zl) q0.2)
      rw [hvq q0 h0]; exact List.mem_map.2 ⟨y, hy, rfl⟩
  have hmem : ∀ y', y' ∈ R' ↔ y' ∈ R.map f := fun y' => by
    rw [← hR', newsL_mem, hcs2]
    constructor
    · rintro ⟨⟨y, hy, rfl⟩, hn⟩
      exact List.mem_map.2 ⟨y, by rw [← hR, newsL_mem]; exact ⟨hy, fun q => hn (List.mem_map.2 ⟨y, q, rfl⟩)⟩, rfl⟩
    · intro hy'
      obtain ⟨y, hy, rfl⟩ := List.mem_map.1 hy'
      rw [← hR, newsL_mem] at hy
      refine ⟨⟨y, hy.1, rfl⟩, fun q => ?_⟩
      obtain ⟨z, hz, e⟩ := List.mem_map.1 q
      exact hy.2 (finj z y (hAL z hz) (hcs1 y hy.1) e ▸ hz)
  have hRL : ∀ x ∈ R, x ∈ L := fun x hx => by rw [hL]; exact List.mem_append.2 (.inr hx)
  -- what stands in the context
  have forth : ∀ D y, (D, T.var y) ∈ l1 → (D, T.var (f y)) ∈ l2 := fun D y hy => (a10 _).2 (List.mem_map.2 ⟨_, hy, by
    show (D, app (prs L zl) (T.var y)) = _
    rw [app_sub, sub, k2 y (hLc _ hy y (by simp [vs]))]⟩)
  have back : ∀ C x, x ∈ L → (C, T.var (f x)) ∈ l2 → (C, T.var x) ∈ l1 := fun C x hx hc => by
    obtain ⟨q0, h0, e⟩ := List.mem_map.1 ((a10 _).1 hc)
    have e1 : q0.1 = C := congrArg Prod.fst e
    have e2 : app (prs L zl) q0.2 = .var (f x) := congrArg Prod.snd e
    rcases hleaf1 q0 h0 with ⟨x0, hx0⟩ | hv
    · have hx0L := hLc q0 h0 x0 (by rw [hx0]; simp [vs])
      rw [hx0, app_sub, sub, k2 x0 hx0L] at e2
      have : f x0 = f x := by injection e2
      rw [← finj x0 x hx0L hx this, ← hx0, ← e1]; exact h0
    · have := hvq q0 h0
      rw [e2, hv] at this
      simp [vs] at this
  have hleaf2 : ∀ q ∈ l2, LeafT q.2 := fun q hq => by
    obtain ⟨q0, h0, rfl⟩ := List.mem_map.1 ((a10 q).1 hq)
    rcases hleaf1 q0 h0 with ⟨x0, hx0⟩ | hv
    · refine .inl ⟨f x0, ?_⟩
      show app (prs L zl) q0.2 = _
      rw [hx0, app_sub, sub]; exact k2 x0 (hLc q0 h0 x0 (by rw [hx0]; simp [vs]))
    · refine .inr ?_
      show vs (app (prs L zl) q0.2) = []
      rw [hvq q0 h0, hv]; rfl
  have hzlt : zl.Pairwise ltN := by
    obtain ⟨hn, i, hi, e⟩ := a7
    have hLn : L.length ≤ 4 := by rw [← hn.1]; exact hok2.1.1
    rw [e]; exact newsTo_lt [] i (by simp at hi; omega)
  have hRlt : (R.map f).Pairwise ltN := by rw [hzl] at hzlt; exact (List.pairwise_append.1 hzlt).2.1
  have hRboth : R.Pairwise fun x y => (∃ C, (C, T.var x) ∈ l1 ∧ ∀ C', (C', T.var y) ∈ l1 → ltQ (C, .var x) (C', .var y)) ∧ ltN (f x) (f y) := by
    have h1 := news_less l1 A a1 hleaf1
    rw [hR] at h1
    rw [List.pairwise_map] at hRlt
    exact h1.and hRlt
  have hR'lt : R'.Pairwise ltN := by
    have h2 := news_less l2 (A.map f) a9 hleaf2
    rw [hR'] at h2
    have hnd : R'.Nodup := by rw [hM] at c5; exact (List.nodup_append.1 c5).2.1
    refine List.Pairwise.imp_of_mem (fun {x' y'} hx' hy' hh => ?_) (h2.and hnd)
    obtain ⟨⟨C, hC, hlt⟩, hne⟩ := hh
    obtain ⟨x, hx, rfl⟩ := List.mem_map.1 ((hmem x').1 hx')
    obtain ⟨y, hy, rfl⟩ := List.mem_map.1 ((hmem y').1 hy')
    rcases ltN_tri hne with h | h
    · exact h
    · rcases pairwise_or R hRboth y x hy hx (fun e => hne (by rw [e])) with ⟨⟨D, hD, hl⟩, _⟩ | ⟨_, h3⟩
      · have b1 := hl C (back C x (hRL x hx) hC)
        have b2 := hlt D (forth D y hD)
        rw [ltQ_var] at b1 b2
        rcases b1 with b1 | ⟨rfl, _⟩
        · rcases b2 with b2 | ⟨rfl, _⟩
          · exact absurd b2 (ltN_asymm _ _ b1)
          · exact absurd b1 (fun k => ltN_asymm _ _ k k)
        · rcases b2 with b2 | ⟨_, b2⟩
          · exact absurd b2 (fun k => ltN_asymm _ _ k k)
          · exact b2
      · exact absurd h3 (ltN_asymm _ _ h)
  have hRR : R' = R.map f := strict_eqR ltN_asymm _ _ hR'lt hRlt hmem
  have hMz : M = zl := by rw [hM, hzl, hRR]
  have hyz : yl = zl := by
    rw [hMz, a7.1.1] at c7
    exact newX_one (fun _ => Iff.rfl) c7 a7
  have hid : ∀ s : T, app (prs M yl) s = s := fun s => by
    rw [hMz, hyz, app_sub]
    exact sub_id fun x _ => ty_self zl x
  refine ⟨hyz, by rw [c8, hid], srtP_one c9 a9 fun q => ?_⟩
  rw [c10]
  unfold appP
  rw [List.mem_map]
  constructor
  · rintro ⟨q0, h0, rfl⟩
    rw [hid]; exact h0
  · intro hq
    exact ⟨q, hq, by rw [hid]⟩
end Go.Proofs.YtjnlchhikdfifaaGreatDoor
/- A region that draws its order and ends with an append and the assignment of what it gives: all but these two by an invariant. -/
namespace Go.Proofs.YtjnlchhikdfifaaGreatDoor

section
variable {P : Program} {ops : Array Oper} {Q : Exit → Act → World → Prop} {fr : (Nat → Value) → Act} {S : World → Prop} {Rel : World → World → Prop} {Vals : Nat → Value → World → Prop} {s : Nat}

/-- What is asked of the last operation, behind the last but one. -/
def LastOf (P : Program) (ops : Array Oper) (Q : Exit → Act → World → Prop) (o : Oper) (a : Act) (w : World) : Prop :=
  ∀ K : Act → World → Prop, (∀ v w', Q .normal (a.put o.dst v) w' → K (a.put o.dst v) w') → if Region.wanted o (yielded ops a.tmps) = true then Oper.wp P o a w K Q else K (a.put o.dst undef) w

theorem count_low {l : Array Bool} (hz : l.size = s + 2) (h0 : l.getD s false = false) (h1 : l.getD (s + 1) false = false) : l.toList.count true ≤ s := by
  have hl : l.toList.length = s + 2 := by simpa using hz
  have : l.toList.count true = (l.toList.take s).count true + (l.toList.drop s).count true := by rw [← List.count_append, List.take_append_drop]
  have hd : (l.toList.drop s).count true = 0 := by
    rw [List.count_eq_zero]
    intro hm
    obtain ⟨k, hk, e⟩ := List.getElem_of_mem hm
    rw [List.length_drop, hl] at hk
    rw [List.getElem_drop] at e
    have : k = 0 ∨ k = 1 := by omega
    rcases this with rfl | rfl
    · simp [show s < l.size by omega] at h0; simp at e; rw [h0] at e; cases e
    · simp [show s + 1 < l.size by omega] at h1; simp at e; rw [h1] at e; cases e
  have ht : (l.toList.take s).count true ≤ s := Nat.le_trans List.count_le_length (by rw [List.length_take]; omega)
  omega

theorem tail_any {o1 o2 : Oper} (ho1 : ops[s]? = some o1) (ho2 : ops[s + 1]? = some o2) (hsz : ops.size = s + 2) (hput : ∀ i o, i < s → ops[i]? = some o → StepAt P fr S Rel Vals ops Q i o)
    (hb1 : ∀ e ∈ o1.after, Region.binds .any e = true → e.on < s) (hb2 : ∀ e ∈ o2.after, Region.binds .any e = true → e.on < s + 1) (hd2 : ∃ e ∈ o2.after, Region.binds .any e = true ∧ e.on = s)
    (hcov : ∀ i, i < s → ∃ j o e, i < j ∧ j ≤ s ∧ ops[j]? = some o ∧ e ∈ o.after ∧ Region.binds .any e = true ∧ e.on = i)
    (hrel : ∀ w w', S w → Rel w w' → S w') (hval : ∀ i v w w', S w → Vals i v w → Rel w w' → Vals i v w')
    (hlast : ∀ x w, S w → (∀ i, i < s → Vals i (x i) w) → ∀ K : Act → World → Prop, (∀ v w', LastOf P ops Q o2 ((fr x).put o1.dst v) w' → K ((fr x).put o1.dst v) w') →
      if Region.wanted o1 (yielded ops (fr x).tmps) = true then Oper.wp P o1 (fr x) w K Q else K ((fr x).put o1.dst undef) w) :
    ∀ (fuel : Nat) (listed : Array Bool) (x : Nat → Value) (w : World), listed.size = ops.size → ops.size ≤ fuel + listed.toList.count true → S w → listed.getD s false = false → listed.getD (s + 1) false = false →
      (∀ j o, listed.getD j false = true → ops[j]? = some o → ∀ e ∈ o.after, Region.binds .any e = true → listed.getD e.on false = true) →
      (∀ i, listed.getD i false = true → Vals i (x i) w) → wpAny P .any ops Q fuel listed (fr x) w := by
  have hback : ∀ i o, ops[i]? = some o → ∀ e ∈ o.after, Region.binds .any e = true → e.on < i := fun i o ho => by
    have hi : i < s + 2 := by rw [← hsz]; exact (Array.getElem?_eq_some_iff.1 ho).1
    by_cases e : i = s
    · subst e; rw [ho1] at ho; cases ho; exact hb1
    · by_cases e2 : i = s + 1
      · subst e2; rw [ho2] at ho; cases ho; exact hb2
      · exact (hput i o (by omega) ho).back
  have hend : ∀ (listed : Array Bool), listed.size = ops.size → listed.getD (s + 1) false = false → Region.ready .any ops listed = [] → False := fun listed hz h0 h => by
    have := all_of_none hback hz h (s + 1) (by omega)
    rw [h0] at this; cases this
  intro fuel
  induction fuel with
  | zero =>
    intro listed x w hz hc hS h0 h1 hcl hV
    have := count_low (s := s) (by omega) h0 h1
    omega
  | succ fuel ih =>
    intro listed x w hz hc hS h0 h1 hcl hV
    refine ⟨fun h => (hend listed hz h1 h).elim, fun i hi => ?_⟩
    obtain ⟨hi0, o, ho, hdep⟩ := mem_ready.1 hi
    have hlt : i < listed.size := by rw [hz]; exact (Array.getElem?_eq_some_iff.1 ho).1
    have hi0' : listed[i] = false := by simpa [hlt] using hi0
    have hsetD : ∀ j, (listed.setIfInBounds i true).getD j false = true → j = i ∨ listed.getD j false = true := fun j hj => by
      by_cases hji : j = i
      · exact .inl hji
      · rw [getD_set_ne false (Ne.symm hji)] at hj; exact .inr hj
    have hsetI : (listed.setIfInBounds i true).getD i false = true := by simp [hlt]
    have hmono : ∀ j, listed.getD j false = true → (listed.setIfInBounds i true).getD j false = true := fun j hj => by
      by_cases hji : j = i
      · subst hji; exact hsetI
      · rw [getD_set_ne false (Ne.symm hji)]; exact hj
    by_cases hi2 : i = s + 1
    · subst hi2
      rw [ho2] at ho; cases ho
      obtain ⟨e, he, hb, hon⟩ := hd2
      have := hdep e he hb
      rw [hon, h0] at this; cases this
    by_cases his : i = s
    · subst his
      rw [ho1] at ho; cases ho
      have hall : ∀ j, j < i → listed.getD j false = true := fun j hj => all_ahead hcov hcl (fun o' ho' => by rw [ho1] at ho'; cases ho'; exact hdep) (i - j) j (by omega) (by omega)
      have hcl2 := count_low (s := i) (by omega) h0 h1
      obtain ⟨fuel', rfl⟩ : ∃ f, fuel = f + 1 := ⟨fuel - 1, by omega⟩
      have hK : ∀ v w', LastOf P ops Q o2 ((fr x).put o1.dst v) w' → wpAny P .any ops Q (fuel' + 1) (listed.setIfInBounds i true) ((fr x).put o1.dst v) w' := fun v w' hq => by
        refine ⟨fun h => (hend _ (by simpa using hz) (by rw [getD_set_ne false (by omega)]; exact h1) h).elim, fun j hj => ?_⟩
        obtain ⟨hj0, oj, hoj, hjd⟩ := mem_ready.1 hj
        have hjl : j < i + 2 := by rw [← hsz]; exact (Array.getElem?_eq_some_iff.1 hoj).1
        have hj2 : j = i + 1 := by
          by_cases e : j = i
          · subst e; rw [getD_tt hsetI] at hj0; cases hj0
          · by_cases e2 : j = i + 1
            · exact e2
            · have := hmono j (hall j (by omega))
              rw [getD_tt this] at hj0; cases hj0
        subst hj2
        rw [ho2] at hoj; cases hoj
        have hK2 : ∀ v2 w2, Q .normal (((fr x).put o1.dst v).put o2.dst v2) w2 → wpAny P .any ops Q fuel' ((listed.setIfInBounds i true).setIfInBounds (i + 1) true) (((fr x).put o1.dst v).put o2.dst v2) w2 := fun v2 w2 hq2 => by
          have hlt2 : i + 1 < listed.size := by omega
          have hnone : Region.ready .any ops ((listed.setIfInBounds i true).setIfInBounds (i + 1) true) = [] := by
            cases h : Region.ready .any ops ((listed.setIfInBounds i true).setIfInBounds (i + 1) true) with
            | nil => rfl
            | cons k l =>
              have hk : k ∈ Region.ready .any ops ((listed.setIfInBounds i true).setIfInBounds (i + 1) true) := by rw [h]; simp
              obtain ⟨hk0, ok, hok, _⟩ := mem_ready.1 hk
              have hkl : k < i + 2 := by rw [← hsz]; exact (Array.getElem?_eq_some_iff.1 hok).1
              have : ((listed.setIfInBounds i true).setIfInBounds (i + 1) true).getD k false = true := by
                by_cases e : k = i + 1
                · subst e; simp [hlt2]
                · rw [getD_set_ne false (Ne.symm e)]
                  by_cases e2 : k = i
                  · subst e2; exact hsetI
                  · exact hmono k (hall k (by omega))
              rw [getD_tt this] at hk0; cases hk0
          cases fuel' with
          | zero => exact ⟨hnone, hq2⟩
          | succ f => exact ⟨fun _ => hq2, fun j hj => by rw [hnone] at hj; cases hj⟩
        have := hq _ hK2
        unfold wpOp
        simp only [ho2]
        split
        · rename_i hw; rw [if_pos hw] at this; exact .inl this
        · rename_i hw; rw [if_neg hw] at this; exact this
      have := hlast x w hS (fun j hj => hV j (hall j hj)) _ hK
      unfold wpOp
      simp only [ho1]
      split
      · rename_i hw; rw [if_pos hw] at this; exact .inl this
      · rename_i hw; rw [if_neg hw] at this; exact this
    · have hil : i < s := by have := (Array.getElem?_eq_some_iff.1 ho).1; omega
      have H := hput i o hil ho
      have hK : ∀ v w', Rel w w' → Vals i v w' → wpAny P .any ops Q fuel (listed.setIfInBounds i true) ((fr x).put o.dst v) w' := fun v w' hr hv => by
        rw [H.put]
        refine ih _ _ _ (by simpa using hz) ?_ (hrel w w' hS hr) (by rw [getD_set_ne false his]; exact h0) (by rw [getD_set_ne false hi2]; exact h1) (fun j oj hj hoj e he hb => ?_) fun j hj => ?_
        · have : (listed.setIfInBounds i true).toList.count true = listed.toList.count true + 1 := by
            rw [Array.toList_setIfInBounds, List.count_set (by simpa using hlt)]
            simp [hi0']
          omega
        · rcases hsetD j hj with rfl | hj'
          · rw [ho] at hoj; cases hoj
            exact hmono _ (hdep e he hb)
          · exact hmono _ (hcl j oj hj' hoj e he hb)
        · by_cases hji : j = i
          · subst hji; rw [upd_same]; exact hv
          · rw [upd_other x v hji]
            exact hval _ _ _ _ hS (hV j (by rw [getD_set_ne false (Ne.symm hji)] at hj; exact hj)) hr
      have := H.run x w hS (fun e he hb => hV e.on (hdep e he hb)) _ hK
      unfold wpOp
      simp only [ho]
      split
      · rename_i hw; rw [if_pos hw] at this; exact .inl this
      · rename_i hw; rw [if_neg hw] at this; exact this

/-- What is asked of all but the last two operations, and of these. -/
def AllTail (f : Nat → Oper → Prop) (g : Oper → Oper → Prop) : Nat → List Oper → Prop
  | _, [] => False
  | _, [_] => False
  | _, [o, o'] => g o o'
  | n, o :: o' :: o'' :: os => f n o ∧ AllTail f g (n + 1) (o' :: o'' :: os)
theorem AllTail.get {f : Nat → Oper → Prop} {g : Oper → Oper → Prop} : ∀ {l : List Oper} {n : Nat}, AllTail f g n l → (∀ {i : Nat} {o : Oper}, l[i]? = some o → i + 2 < l.length → f (n + i) o) ∧ (∀ {i : Nat} {o o' : Oper}, l[i]? = some o → l[i + 1]? = some o' → i + 2 = l.length → g o o')
  | [], _, h => h.elim
  | [_], _, h => h.elim
  | [a, b], n, h => ⟨fun {i o} _ hi => by simp at hi; omega, fun {i o o'} h1 h2 hi => by
      have : i = 0 := by simp at hi; omega
      subst this; simp at h1 h2; subst h1; subst h2; exact h⟩
  | a :: b :: c :: l, n, h => by
    obtain ⟨r1, r2⟩ := AllTail.get h.2
    refine ⟨fun {i o} h1 hi => ?_, fun {i o o'} h1 h2 hi => ?_⟩
    · cases i with
      | zero => simp at h1; subst h1; exact h.1
      | succ i =>
        have := r1 (i := i) (o := o) (by simpa using h1) (by simp at hi ⊢; omega)
        rw [show n + (i + 1) = n + 1 + i by omega]; exact this
    · cases i with
      | zero => simp at hi
      | succ i => exact r2 (i := i) (by simpa using h1) (by simpa using h2) (by simp at hi ⊢; omega)

/-- What is asked of the last but one. -/
structure TailAt (P : Program) (fr : (Nat → Value) → Act) (S : World → Prop) (Vals : Nat → Value → World → Prop) (ops : Array Oper) (Q : Exit → Act → World → Prop) (s : Nat) (o o2 : Oper) : Prop where
  back : ∀ e ∈ o.after, Region.binds .any e = true → e.on < s
  back2 : ∀ e ∈ o2.after, Region.binds .any e = true → e.on < s + 1
  dep : ∃ e ∈ o2.after, Region.binds .any e = true ∧ e.on = s
  run : ∀ (x : Nat → Value) (w : World), S w → (∀ i, i < s → Vals i (x i) w) → ∀ K : Act → World → Prop, (∀ v w', LastOf P ops Q o2 ((fr x).put o.dst v) w' → K ((fr x).put o.dst v) w') →
      if Region.wanted o (yielded ops (fr x).tmps) = true then Oper.wp P o (fr x) w K Q else K ((fr x).put o.dst undef) w

theorem region_tail (fr : (Nat → Value) → Act) (S : World → Prop) (Rel : World → World → Prop) (Vals : Nat → Value → World → Prop) (x0 : Nat → Value) (s : Nat) {id : Nat} {a : Act} {w : World}
    (hm : P.follows .mixedOrders = true) (ha : a = fr x0) (hS : S w.drew) (hsz : ops.size = s + 2) (hcov : covered ops s = true)
    (hrel : ∀ w w', S w → Rel w w' → S w') (hval : ∀ i v w w', S w → Vals i v w → Rel w w' → Vals i v w')
    (hops : AllTail (StepAt P fr S Rel Vals ops Q) (TailAt P fr S Vals ops Q s) 0 ops.toList) : (Code.region id ops true).wp P Q a w := by
  subst ha
  refine wp_region_any hm ?_
  obtain ⟨g1, g2⟩ := hops.get
  obtain ⟨o1, ho1⟩ : ∃ o, ops[s]? = some o := ⟨ops[s]'(by omega), Array.getElem?_eq_getElem (by omega)⟩
  obtain ⟨o2, ho2⟩ : ∃ o, ops[s + 1]? = some o := ⟨ops[s + 1]'(by omega), Array.getElem?_eq_getElem (by omega)⟩
  have T := g2 (i := s) (by simpa using ho1) (by simpa using ho2) (by simp [hsz])
  refine tail_any ho1 ho2 hsz (fun i o hi h => ?_) T.back T.back2 T.dep (covered_get hcov) hrel hval T.run _ _ _ _ (by simp) (by simp) hS (by simp [hsz]) (by simp [hsz]) (fun j o hj => ?_) (fun i hi => ?_)
  · have := g1 (i := i) (o := o) (by simpa using h) (by simp [hsz]; omega); rwa [Nat.zero_add] at this
  · by_cases h : j < ops.size
    · simp [h] at hj
    · simp [h] at hj
  · by_cases h : i < ops.size
    · simp [h] at hi
    · simp [h] at hi
end
end Go.Proofs.YtjnlchhikdfifaaGreatDoor
/- The document's Preds. -/
namespace Go.Proofs.YtjnlchhikdfifaaGreatDoor
open Go.RowKit Go.Sort Go.Lib
attribute [local go_sem] Oper.semAt_some

theorem prs_of_own {W : World} {B : Nat} {v : Value} {ls : List PR} (h : W.ownsRow B 55 4 v ls.length (cellsP ls)) (ht : Typ ls W) : PrsAt W v (ls.map prOf) := by
  by_cases h0 : ls = []
  · subst h0
    obtain ⟨a, c, e⟩ := row_val h
    exact .inl ⟨rfl, a, c, e⟩
  · have hc : ∃ g cap, v = .slice (some ⟨g, 0, none⟩) ls.length cap ∧ ls.length ≤ cap := by
      rcases h.2 with ⟨_, h1⟩ | ⟨g, cap, cur, e, _, _, hc, _⟩
      · exact absurd (List.length_eq_zero_iff.1 h1) h0
      · exact ⟨g, cap, e, hc⟩
    obtain ⟨g, cap, rfl, hcap⟩ := hc
    rcases given_of_row h (fun e => absurd e h0) with ⟨e, _⟩ | ⟨_, g', cap', e, hr⟩
    · exact absurd e h0
    · cases e
      exact prs_of_rowG hr ht hcap

theorem own_below {W W' : World} {base : Nat} {e : TypeId} {size : Nat} {v : Value} {n : Nat} {xs : List Value} (h : W.ownsRow base e size v n xs) (hb : Below W.heap.size W W') : W'.ownsRow base e size v n xs :=
  row_kept h fun k _ _ hk => (hb.block k (Array.getElem?_eq_some_iff.1 hk).1).trans hk
set_option maxRecDepth 100000 in
set_option maxHeartbeats 4000000 in
theorem rpreds_any (u v : Value) (d : List PR) (l : List Pr) (w : World) (hl : d.length < 1000000) (hd : GivenG 53 u d w) (ht : Typ d w) (h : PrsAt w v l) (hq : ∀ q ∈ l, tsize q.2 ≤ 1000000) (hn : l.length ≤ 1000000) :
    Calls Tryz.prog 26 #[u, v] w fun e w' => (∃ a c, e = .returned (.slice a l.length c) ∧ PrsAt w' (.slice a l.length c) (appP d l)) ∧ Below w.heap.size w w' := by
  obtain ⟨av, cv, rfl⟩ := h.shape
  obtain ⟨i0, hi, hz0, hz1, hz2⟩ := info_parts Tryz.infoPred
  have HD := Lib.hid hd; have HT := Lib.hid ht
  obtain ⟨ua, uc, rfl, _⟩ := hd.shape
  have HRow := Lib.hid (fun (i : Nat) (hi : i < l.length) => (by obtain ⟨g, cap, e, hg, hc, hr⟩ := h.row (by rintro rfl; cases hi); exact ⟨g, cap, e, hg, hc, hr i hi⟩ : ∃ g cap, Value.slice av l.length cv = .slice (some ⟨g, 0, none⟩) l.length cap ∧ g < w.heap.size ∧ l.length ≤ cap ∧ ∃ a c, w.cell? ⟨g, i * 4, none⟩ = some (.string l[i].1) ∧ w.cell? ⟨g, i * 4 + 1, none⟩ = some (.int .i64 l[i].2.kind) ∧ w.cell? ⟨g, i * 4 + 2, none⟩ = some (.string l[i].2.name) ∧ w.cell? ⟨g, i * 4 + 3, none⟩ = some (.slice a l[i].2.kids.length c) ∧ TysAt w (.slice a l[i].2.kids.length c) l[i].2.kids))
  have HQ := Lib.hid hq
  clear hd ht h hq
  go_enter Tryz.func26, Tryz.ntmps26
  go_wp2
  go_loopw [5, 6] (fun vo vi wr => ∃ (i : Nat) (ls : List PR), i ≤ l.length ∧ vi = .int .i64 i ∧ Hid ((ls.length = i ∧ ls.map prOf = appP d (l.take i)) ∧ wr.ownsRow w.heap.size 55 4 vo ls.length (cellsP ls) ∧ Typ ls wr ∧ Below w.heap.size w wr)) (fun _ vi _ => l.length - (intOf vi).toNat)
  case atStart => exact ⟨0, [], Nat.zero_le _, rfl, Lib.hid ⟨⟨rfl, rfl⟩, World.ownsRow_nil _ _ _ _, (fun _ h => nomatch h), Below.refl _ _⟩⟩
  case round =>
    obtain ⟨i, ls, hi', rfl, hF⟩ := hrel
    by_cases hlt : i < l.length
    · obtain ⟨⟨hll, hmap⟩, hRow, hTy, hB⟩ := hF.out
      obtain ⟨oa, oc, rfl⟩ := row_val hRow
      obtain ⟨g, cap, e1, hg, hcap, pa, pc, x0, x1, x2, x3, xk⟩ := HRow.out i hlt
      cases e1
      have f1 := fun o => hB.cell (p := ⟨g, o, none⟩) hg
      rw [← f1] at x0 x1 x2 x3
      have hgw : g < wr.heap.size := Nat.lt_of_lt_of_le hg hB.size
      have hqs := HQ.out l[i] (List.getElem_mem hlt)
      have HA := Lib.hid (fun (V : World) (hb : Below w.heap.size w V) => rapp_ret (d := d) (t := l[i].2) (v := .slice ua d.length uc) (a := pa) (c := pc) (w := V) hl (HD.out.below hb) (HT.out.keep (KeepT.of_below hb)) (xk.keep (KeepT.of_below hb)) hqs)
      have HM := Lib.hid (show appP d (l.take (i + 1)) = appP d (l.take i) ++ [(l[i].1, app d l[i].2)] by unfold appP; rw [List.take_succ_eq_append_getElem hlt, List.map_append]; rfl)
      have hlsn : ls.length ≤ 1000000 := by omega
      have HLen := Lib.hid hll; have HMap := Lib.hid hmap; have HRw := Lib.hid hRow; have HTy := Lib.hid hTy; have HB := Lib.hid hB
      clear f1 xk hqs hF hll hmap hRow hTy hB HRow
      generalize l[i] = q at x0 x1 x2 x3 HA HM
      obtain ⟨cn, t⟩ := q
      simp only at x0 x1 x2 x3 HA HM
      have hiz : (i : Int) < (l.length : Int) := by omega
      go_wp2
      go_region_law (first
        | (refine run_bare rfl ?_; go_simp; go_at_call 27; refine (HA.out wr.drew HB.out.drew).mono ?_; rintro e w4 ⟨⟨a4, c4, rfl, hin⟩, hb4⟩; have HI4 := Lib.hid hin; have HB4 : Hid (Below wr.heap.size wr w4) := Lib.hid ((Below.refl _ wr).drew.trans hb4); have x04 := (HB4.out.cell (p := ⟨g, i * 4, none⟩) hgw).trans x0; have HR4 := Lib.hid (own_below HRw.out HB4.out); clear hin hb4)
        | (refine step_append_lies _ (by rfl) _ _ 28 (by rfl) w.heap.size 55 i0 (.agg #[.string ⟨#[]⟩, .int .i64 0, .string ⟨#[]⟩, .slice none 0 0]) 4 64 Tryz.underlying28 hi hz0 hz1 hz2 rfl (by decide) _ _ _ (by rfl) (HR4.out.alloc _) ⟨w4.heap.size, 0, none⟩ 1 1 [.string cn, .int .i64 (app d t).kind, .string (app d t).name, .slice a4 (app d t).kids.length c4] (by rfl) rfl (cell_new4 _ _ _ _ _ _) (by simp [Value.oneCell']) (by decide) (by unfold maxLen; omega) (by omega) (by have := HB.out.size; have := HB4.out.size; simp; omega) _ rfl ?_; intro g5 cap5 w5 ho5 hg5 hat5 hlt5))
      all_goals
        have hs4 := HB4.out.size
        have hsw := HB.out.size
        have hk : KeepT wr w5 := (KeepT.of_below HB4.out).trans ((keepT_alloc w4 _).trans (KeepT.grown hg5 (HR4.out.alloc _) (by decide)))
        have hk4 : KeepT w4 w5 := (keepT_alloc w4 _).trans (KeepT.grown hg5 (HR4.out.alloc _) (by decide))
        have hb5 : Below w.heap.size w w5 := ((HB.out.trans (HB4.out.mono hsw)).alloc (by omega) _).grown hg5 (by simp; omega) (fun j hj => (HRw.out.lt j hj).1)
        have HK := Lib.hid hk; have HK4 := Lib.hid hk4; have HB5 := Lib.hid hb5; have HO5 := Lib.hid ho5
        clear hk hk4 hb5 ho5 hg5 hat5 hlt5
        go_wp2
        go_roundw
        case rel =>
          refine ⟨i + 1, ls ++ [⟨cn, app d t, a4, c4⟩], by omega, by go_num, Lib.hid ⟨⟨by simp [HLen.out], ?_⟩, ?_, ?_, HB5.out⟩⟩
          · rw [List.map_append, HMap.out, HM.out]; rfl
          · rw [cellsP_snoc, List.length_append]; exact HO5.out
          · intro y hy
            rcases List.mem_append.1 hy with hy | hy
            · exact (HTy.out y hy).keep HK.out
            · obtain rfl := List.mem_singleton.1 hy
              exact HI4.out.keep HK4.out
        case measure => simp [intOf]; omega
    · obtain rfl : i = l.length := by omega
      have hp := prs_of_own hF.out.2.1 hF.out.2.2.1
      obtain ⟨oa, oc, rfl⟩ := row_val hF.out.2.1
      rw [hF.out.1.1, hF.out.1.2, List.take_length] at hp
      have hl2 := hF.out.1.1
      have HPp := Lib.hid hp; have HBz := Lib.hid hF.out.2.2.2
      rw [hl2]
      clear hp HRow hF hl2
      go_wp2
      go_ret
      exact ⟨⟨_, _, rfl, HPp.out⟩, HBz.out⟩
end Go.Proofs.YtjnlchhikdfifaaGreatDoor
/- SchemeFresh: what its statements keep. -/
namespace Go.Proofs.YtjnlchhikdfifaaGreatDoor
open Go.RowKit Go.Sort Go.Lib
attribute [local go_sem] Oper.semAt_some

/-- Block g holds the texts l. -/
def TRow (g : Nat) (l : List ByteArray) (V : World) : Prop := ∃ cs fz, V.heap[g]? = some (.cells cs 9 fz) ∧ ∀ i (h : i < l.length), cs[i]? = some (.string l[i])
theorem TRow.lt {g : Nat} {l : List ByteArray} {V : World} (h : TRow g l V) : g < V.heap.size := by obtain ⟨_, _, h, _⟩ := h; exact (Array.getElem?_eq_some_iff.1 h).1
theorem TRow.below {g : Nat} {l : List ByteArray} {V Y : World} (h : TRow g l V) (hb : Below V.heap.size V Y) : TRow g l Y := by
  have hl := h.lt
  obtain ⟨cs, fz, h1, h2⟩ := h; exact ⟨cs, fz, (hb.block g hl).trans h1, h2⟩
theorem TRow.cell {g : Nat} {l : List ByteArray} {V : World} (h : TRow g l V) {i : Nat} (hi : i < l.length) : V.cell? ⟨g, i, none⟩ = some (.string (l.getD i ⟨#[]⟩)) := by
  obtain ⟨cs, fz, h1, h2⟩ := h
  rw [Lib.cell_of_heap h1, show l.getD i ⟨#[]⟩ = l[i] by simp [List.getD, hi]]
  exact h2 i hi
theorem TRow.of {a : Option Addr} {n c : Nat} {l : List ByteArray} {V : World} (h : TextsAt V (.slice a n c) l) (h0 : 0 < n) : ∃ g, a = some ⟨g, 0, none⟩ ∧ n ≤ c ∧ TRow g l V := by
  obtain ⟨a', c', e, h⟩ := h
  cases e
  rcases h with h | ⟨g, rfl, hc, cs, fz, hg, hr⟩
  · rw [h] at h0; exact absurd h0 (Nat.lt_irrefl _)
  · exact ⟨g, rfl, hc, cs, fz, hg, hr⟩
theorem TRow.take {g : Nat} {l : List ByteArray} {V : World} (h : TRow g l V) {k c : Nat} (hk : k ≤ l.length) (hc : k ≤ c) : TextsAt V (.slice (some ⟨g, 0, none⟩) k c) (l.take k) := by
  obtain ⟨cs, fz, h1, h2⟩ := h
  have e : (l.take k).length = k := by rw [List.length_take, Nat.min_eq_left hk]
  refine ⟨_, _, by rw [e], .inr ⟨g, rfl, by rw [e]; exact hc, cs, fz, h1, fun i hi => ?_⟩⟩
  rw [List.getElem_take]
  exact h2 i (by omega)
/-- Both schemes, and what they hold. -/
def FrS (w : World) (b9 b10 n m : Nat) (F G : List ByteArray) (lc lu : List Pr) (t u : T) (fa xa ta ga pa za : Option Addr) (fc xc tc gc pc zc : Nat) (V : World) : Prop :=
  (SchB b9 (.slice fa n fc) (.slice xa m xc) t ta tc V ∧ TextsAt V (.slice fa n fc) F ∧ PrsAt V (.slice xa m xc) lc) ∧ (SchB b10 (.slice ga n gc) (.slice pa m pc) u za zc V ∧ TextsAt V (.slice ga n gc) G ∧ PrsAt V (.slice pa m pc) lu) ∧ Below w.heap.size w V
theorem FrS.below {w : World} {b9 b10 n m : Nat} {F G : List ByteArray} {lc lu : List Pr} {t u : T} {fa xa ta ga pa za : Option Addr} {fc xc tc gc pc zc : Nat} {V Y : World} (h : FrS w b9 b10 n m F G lc lu t u fa xa ta ga pa za fc xc tc gc pc zc V) (hb : Below V.heap.size V Y) : FrS w b9 b10 n m F G lc lu t u fa xa ta ga pa za fc xc tc gc pc zc Y :=
  ⟨⟨h.1.1.below hb, h.1.2.1.below hb, h.1.2.2.keep (KeepT.of_below hb) (KeepP.of_below hb)⟩, ⟨h.2.1.1.below hb, h.2.1.2.1.below hb, h.2.1.2.2.keep (KeepT.of_below hb) (KeepP.of_below hb)⟩, h.2.2.trans (hb.mono h.2.2.size)⟩
/-- The same, the names' rows laid open. -/
def FrQ (w : World) (b9 b10 n m : Nat) (F G : List ByteArray) (lc lu : List Pr) (t u : T) (gf gg : Nat) (xa ta pa za : Option Addr) (fc xc tc gc pc zc : Nat) (V : World) : Prop :=
  FrS w b9 b10 n m F G lc lu t u (some ⟨gf, 0, none⟩) xa ta (some ⟨gg, 0, none⟩) pa za fc xc tc gc pc zc V ∧ TRow gf F V ∧ TRow gg G V
theorem FrQ.below {w : World} {b9 b10 n m : Nat} {F G : List ByteArray} {lc lu : List Pr} {t u : T} {gf gg : Nat} {xa ta pa za : Option Addr} {fc xc tc gc pc zc : Nat} {V Y : World} (h : FrQ w b9 b10 n m F G lc lu t u gf gg xa ta pa za fc xc tc gc pc zc V) (hb : Below V.heap.size V Y) : FrQ w b9 b10 n m F G lc lu t u gf gg xa ta pa za fc xc tc gc pc zc Y :=
  ⟨h.1.below hb, h.2.1.below hb, h.2.2.below hb⟩
/-- The row of one pair that is to be appended. -/
def RowY (x : PR) (zb : Nat) (V : World) : Prop := V.heap[zb]? = some (.cells #[.string x.n, .int .i64 x.t.kind, .string x.t.name, .slice x.a x.t.kids.length x.c] 53 (0, 0))
theorem RowY.below {x : PR} {zb : Nat} {V Y : World} (h : RowY x zb V) (hb : Below V.heap.size V Y) : RowY x zb Y := (hb.block zb (Array.getElem?_eq_some_iff.1 h).1).trans h
theorem varX_any (n : ByteArray) (w : World) : Calls Tryz.prog 25 #[.string n] w fun e w' => e = .returned (.agg #[.int .i64 (T.var n).kind, .string (T.var n).name, .slice none (T.var n).kids.length 0]) ∧ Below w.heap.size w w' := by
  go_enter Tryz.func25, Tryz.ntmps25
  go_wp2
  refine bodyPost_ret (v := .agg #[.int .i64 (T.var n).kind, .string (T.var n).name, .slice none (T.var n).kids.length 0]) (by simp [results, Tryz.results25, go_sem, T.kind, T.name, T.kids]) rfl ⟨rfl, (Below.refl _ w).alloc (Nat.le_refl _) _⟩
/-- What is appended, and what lies beside it. -/
def FrO (w1 : World) (ds : List PR) (lv : Value) (V : World) : Prop := V.ownsRow w1.heap.size 53 4 lv ds.length (cellsP ds) ∧ Below w1.heap.size w1 V
theorem FrO.below {w1 : World} {ds : List PR} {lv : Value} {V Y : World} (h : FrO w1 ds lv V) (hb : Below V.heap.size V Y) : FrO w1 ds lv Y := ⟨own_below h.1 hb, h.2.trans (hb.mono h.2.size)⟩
/-- The pairs so far. -/
def FrN (w1 : World) (F G : List ByteArray) (i : Nat) (lv : Value) (wr : World) : Prop := ∃ ds : List PR, ds.length = i ∧ (∀ j, j < i → (ds.getD j noP).n = G.getD j ⟨#[]⟩ ∧ (ds.getD j noP).t = .var (F.getD j ⟨#[]⟩)) ∧ FrO w1 ds lv wr ∧ (i = 0 → lv = .slice none 0 0)
theorem frn_start (w1 : World) (F G : List ByteArray) : FrN w1 F G 0 (.slice none 0 0) w1 := ⟨[], rfl, fun j hj => absurd hj (Nat.not_lt_zero _), ⟨World.ownsRow_nil _ _ _ _, Below.refl _ _⟩, fun _ => rfl⟩
theorem frn_next {w1 V w9 : World} {F G : List ByteArray} {i : Nat} {ds : List PR} {pr : PR} {lv : Value} {g9 c9 : Nat} (h1 : ds.length = i) (h2 : ∀ j, j < i → (ds.getD j noP).n = G.getD j ⟨#[]⟩ ∧ (ds.getD j noP).t = .var (F.getD j ⟨#[]⟩)) (hp : G.getD i ⟨#[]⟩ = pr.n ∧ pr.t = .var (F.getD i ⟨#[]⟩)) (h3 : FrO w1 ds lv V)
    (ho : w9.ownsRow w1.heap.size 53 4 (.slice (some ⟨g9, 0, none⟩) (ds.length + 1) c9) (ds.length + 1) (cellsP ds ++ encP pr)) (hg : V.grownBy w9 lv.ownBlock) : FrN w1 F G (i + 1) (.slice (some ⟨g9, 0, none⟩) (ds.length + 1) c9) w9 := by
  refine ⟨ds ++ [pr], by simp [h1], fun j hj => ?_, ⟨?_, h3.2.grown hg h3.2.size (fun j hj => (h3.1.lt j hj).1)⟩, fun e => by omega⟩
  · by_cases e : j = i
    · subst e
      have e2 : (ds ++ [pr]).getD j noP = pr := by simp [List.getD, ← h1]
      rw [e2]; exact ⟨hp.1.symm, hp.2⟩
    · have hj' : j < ds.length := by omega
      have e2 : (ds ++ [pr]).getD j noP = ds.getD j noP := by simp [List.getD, List.getElem?_append_left hj']
      rw [e2]; exact h2 j (by omega)
  · rw [cellsP_snoc, List.length_append]; exact ho
/-- At the end: what the pairs do. -/
theorem frn_end {w1 wr : World} {F G : List ByteArray} {lv : Value} (hl : G.length = F.length) (h : FrN w1 F G F.length lv wr) : ∃ ds : List PR, GivenG 53 lv ds wr ∧ Typ ds wr ∧ ds.length = F.length ∧ ∀ u, app ds u = app (prs G F) u := by
  obtain ⟨ds, h1, h2, h3, h4⟩ := h
  have hv : ∀ x ∈ ds, ∃ q, x.t = .var q := fun x hx => by
    obtain ⟨j, hj, rfl⟩ := List.mem_iff_getElem.1 hx
    have := (h2 j (by omega)).2
    exact ⟨_, by simpa [List.getD, hj] using this⟩
  have hc : Copy ds (prs G F) := ⟨by rw [h1, prs_len]; omega, fun j hj => by
    obtain ⟨e1, e2⟩ := prs_get G F j (by omega)
    rw [e1, e2]; exact h2 j (by omega)⟩
  refine ⟨ds, given_of_row h3.1 (fun e => h4 (by rw [← h1, e]; rfl)), fun x hx => ?_, h1, fun u => app_congr (fun n => by unfold ty; rw [hc.lk]) u⟩
  obtain ⟨q, e⟩ := hv x hx
  rw [e]; exact TysAt.nil _ _ _
theorem qn_first (u : Nat) (h : 0 < (qn u).size) : (qn u)[0]'h = 63 := by
  have e := qn_data u
  have h2 : (qn u).data.toList[0]? = some 63 := by rw [e]; rfl
  rw [Array.getElem?_toList] at h2
  exact (Array.getElem?_eq_some_iff.1 h2).2
theorem qn_index (u : Nat) (W : World) : (Instr.index 9 (.string (qn u)) (.int .i64 0)).run Tryz.prog W = .ok (.int .u8 63) W := by
  have hs := qn_size u
  rw [run_index_string W 9 (qn u) .i64 0 Tryz.underlying9, dif_pos ⟨by omega, by omega⟩]
  have := qn_first u (by omega)
  simp only [show (0 : Int).toNat = 0 from rfl]
  rw [this]; rfl
end Go.Proofs.YtjnlchhikdfifaaGreatDoor
/- SchemeFree: what its last statement keeps. -/
namespace Go.Proofs.YtjnlchhikdfifaaGreatDoor
open Go.RowKit Go.Sort Go.Lib
attribute [local go_sem] Oper.semAt_some

theorem run_guardF {P : Program} {o : Oper} {ops : Array Oper} {a : Act} {w : World} {K : Act → World → Prop} {Q : Exit → Act → World → Prop} {C : Prop} (g k : Nat) (v : Value) (hg : o.guard = some (g, false))
    (hk : (ops[g]?).bind (·.dst) = some k) (hv : a.tmps[k]? = some v) (e : v = .bool false) (h : Oper.wp P o a w K Q) :
    if Region.wanted o (yielded ops a.tmps) = true then Oper.wp P o a w K Q else C := by
  rw [if_pos (by simp [Region.wanted, hg, yielded, hk, hv, e])]; exact h
theorem run_skipF {P : Program} {o : Oper} {ops : Array Oper} {a : Act} {w : World} {K : Act → World → Prop} {Q : Exit → Act → World → Prop} {C : Prop} (g k : Nat) (v : Value) (hg : o.guard = some (g, false))
    (hk : (ops[g]?).bind (·.dst) = some k) (hv : a.tmps[k]? = some v) (e : v = .bool true) (h : C) :
    if Region.wanted o (yielded ops a.tmps) = true then Oper.wp P o a w K Q else C := by
  rw [if_neg (by simp [Region.wanted, hg, yielded, hk, hv, e])]; exact h
theorem mod3S (z : Int) : ∃ nn : Nat, nn < 3 ∧ (wrap64 (z.tmod 3 + 3)).tmod 3 = (nn : Int) := by
  have k1 := Int.tmod_lt_of_pos z (show (0 : Int) < 3 by omega)
  have k2 := Int.lt_tmod_of_pos z (show (0 : Int) < 3 by omega)
  have e : wrap64 (z.tmod 3 + 3) = z.tmod 3 + 3 := by unfold wrap64; omega
  rw [e]
  have k3 := Int.tmod_lt_of_pos (z.tmod 3 + 3) (show (0 : Int) < 3 by omega)
  have k4 := Int.tmod_nonneg 3 (show 0 ≤ z.tmod 3 + 3 by omega)
  exact ⟨((z.tmod 3 + 3).tmod 3).toNat, by omega, by omega⟩
theorem nm3 : ∀ (nn : Nat) (h : nn < 3), ∃ nm : ByteArray, nm ∈ V3 ∧ ([Value.string ⟨#[97]⟩, .string ⟨#[98]⟩, .string ⟨#[99]⟩][nn]'h) = .string nm
  | 0, _ => ⟨⟨#[97]⟩, by simp [V3], rfl⟩
  | 1, _ => ⟨⟨#[98]⟩, by simp [V3], rfl⟩
  | 2, _ => ⟨⟨#[99]⟩, by simp [V3], rfl⟩
  | n + 3, h => by omega
/-- A row whose first text is told. -/
def FRow (g : Nat) (nm : ByteArray) (V : World) : Prop := ∃ cs T fz, V.heap[g]? = some (.cells cs T fz) ∧ cs[0]? = some (.string nm)
theorem FRow.below {g : Nat} {nm : ByteArray} {V Y : World} (h : FRow g nm V) (hb : Below V.heap.size V Y) : FRow g nm Y := by
  obtain ⟨cs, T, fz, h1, h2⟩ := h
  exact ⟨cs, T, fz, (hb.block _ (Array.getElem?_eq_some_iff.1 h1).1).trans h1, h2⟩
theorem FRow.cell {g : Nat} {nm : ByteArray} {V : World} (h : FRow g nm V) : V.cell? ⟨g, 0, none⟩ = some (.string nm) := by
  obtain ⟨cs, T, fz, h1, h2⟩ := h
  rw [Lib.cell_of_heap h1]; exact h2
theorem FRow.of {a : Option Addr} {c : Nat} {nm : ByteArray} {V : World} (h : TextsAt V (.slice a [nm].length c) [nm]) : ∃ g, a = some ⟨g, 0, none⟩ ∧ FRow g nm V := by
  obtain ⟨a', c', e, h⟩ := h
  cases e
  rcases h with h | ⟨g, rfl, hc, cs, fz, hg, hr⟩
  · cases h
  · exact ⟨g, rfl, cs, _, fz, hg, hr 0 (by simp)⟩
/-- A type, a scheme of it, its canon. -/
def SfZ (w : World) (b6 b8 b9 : Nat) (t u : T) (pa : Option Addr) (ca : Nat) (xa : Option Addr) (xc : Nat) (xs : List ByteArray) (xx : Option Addr) (xk : Nat) (ta : Option Addr) (tc : Nat) (za : Option Addr) (zc : Nat) (zn : List ByteArray) (zp : Option Addr) (zq : Nat) (ua : Option Addr) (uc : Nat) (V : World) : Prop :=
  BoxT b6 t pa ca V ∧ (SchB b8 (.slice xa xs.length xc) (.slice xx 0 xk) t ta tc V ∧ TextsAt V (.slice xa xs.length xc) xs) ∧ (SchB b9 (.slice za zn.length zc) (.slice zp 0 zq) u ua uc V ∧ TextsAt V (.slice za zn.length zc) zn) ∧ Below w.heap.size w V
section
variable {w X Y : World} {b6 b8 b9 : Nat} {t u : T} {pa : Option Addr} {ca : Nat} {xa : Option Addr} {xc : Nat} {xs : List ByteArray} {xx : Option Addr} {xk : Nat} {ta : Option Addr} {tc : Nat} {za : Option Addr} {zc : Nat} {zn : List ByteArray} {zp : Option Addr} {zq : Nat} {ua : Option Addr} {uc : Nat}
theorem SfZ.below (h : SfZ w b6 b8 b9 t u pa ca xa xc xs xx xk ta tc za zc zn zp zq ua uc X) (hb : Below X.heap.size X Y) : SfZ w b6 b8 b9 t u pa ca xa xc xs xx xk ta tc za zc zn zp zq ua uc Y :=
  ⟨h.1.below hb, ⟨h.2.1.1.below hb, h.2.1.2.below hb⟩, ⟨h.2.2.1.1.below hb, h.2.2.1.2.below hb⟩, h.2.2.2.trans (hb.mono h.2.2.2.size)⟩
end
end Go.Proofs.YtjnlchhikdfifaaGreatDoor
/- SchemeNames: its names, its types. -/
namespace Go.Proofs.YtjnlchhikdfifaaGreatDoor
open Go.RowKit Go.Sort Go.Lib
attribute [local go_sem] Oper.semAt_some

theorem leaf_small {s : T} (hg : T.Good s) (hl : (T.text s).length ≤ 4) : LeafT s := by
  cases s with
  | var n => exact .inl ⟨n, rfl⟩
  | con n l =>
    rw [T.Good] at hg
    cases l with
    | nil => exact .inr (by rw [vs, vss])
    | cons a r =>
      exfalso
      have h3 : 3 ≤ n.data.toList.length := by
        have h := hg.1
        simp [T.cnames] at h
        rcases h with h | h | h | h <;> rw [h] <;> decide
      have h2 := hg.2
      rw [T.Goods] at h2
      have h1 := size_text a h2.1
      have h0 : 1 ≤ tsize a := by have := tsize_eq a; omega
      have hb := br_ge a.wide a.text
      rw [T.text, T.texts] at hl
      simp only [List.length_append, List.length_cons, List.length_nil] at hl
      omega
  | fn a b =>
    exfalso
    rw [T.text] at hl
    simp only [List.length_append, List.length_cons, List.length_nil] at hl
    rw [T.Good] at hg
    have h1 := size_text b hg.2
    have h0 : 1 ≤ tsize b := by have := tsize_eq b; omega
    omega
  | all n a => rw [T.Good] at hg; exact hg.elim
theorem tok_good {s : T} (hg : T.Good s) (hs : tsize s ≤ 200) : TOK V3 s := ⟨good_plain s hg, sf_nm s hg, hs, fun n hn => good_in s hg n hn⟩
theorem vok3 : VOK V3 := ⟨by decide, v3_small⟩
/-- Variables for variables. -/
theorem tok_ren {V V' : List ByteArray} {s : T} {σ : Sg} {ρ : ByteArray → ByteArray} (h : TOK V s) (hV : VOK V') (hσ : ∀ x ∈ V, σ x = .var (ρ x) ∧ ρ x ∈ V') : TOK V' (sub σ s) := by
  have hx : ∀ x ∈ vs s, σ x = .var (ρ x) := fun x hx => (hσ x (h.2.2.2 x hx)).1
  refine ⟨plain_sub s h.1 fun y hy => ?_, nm_sub s h.2.1 fun y hy => ?_, ?_, fun n hn => ?_⟩
  · rw [hx y hy]; exact .mk _ (by simp [T.kind]) (fun k hk => by cases hk)
  · rw [hx y hy]; exact .mk _ (hV.2 _ (hσ y (h.2.2.2 y hy)).2) (fun k hk => by cases hk)
  · rw [size_subV s fun y hy => ⟨_, hx y hy⟩]; exact h.2.2.1
  · rw [vs_ren s hx] at hn
    obtain ⟨x, h1, rfl⟩ := List.mem_map.1 hn
    exact (hσ x (h.2.2.2 x h1)).2
/-- The names that are put in. -/
def NL (nn : Nat) : List ByteArray := match nn with
  | 0 => [⟨#[120]⟩, ⟨#[121]⟩, ⟨#[122]⟩]
  | 1 => [⟨#[98]⟩, ⟨#[99]⟩, ⟨#[97]⟩]
  | 2 => [⟨#[99]⟩, ⟨#[97]⟩, ⟨#[98]⟩]
  | _ => [⟨#[113, 49]⟩, ⟨#[97]⟩, ⟨#[122, 122]⟩]
theorem nl_ok (nn : Nat) : (NL nn).length = 3 ∧ (NL nn).Nodup ∧ ∀ x ∈ NL nn, x.size ≤ 1000 := by
  unfold NL
  split <;> exact ⟨by decide, by decide, by decide⟩
theorem v3_nodup : V3.Nodup := by decide
theorem v3_len : V3.length = 3 := by decide
/-- The renaming. -/
noncomputable def rnS (nn : Nat) : Sg := fun n => ty n (prs V3 (NL nn))
noncomputable def rnF (nn : Nat) : ByteArray → ByteArray := nmOf V3 (NL nn)
theorem rn_ok (nn : Nat) : (∀ x ∈ V3, rnS nn x = .var (rnF nn x) ∧ rnF nn x ∈ NL nn) ∧ ∀ x y, x ∈ V3 → y ∈ V3 → rnF nn x = rnF nn y → x = y := by
  obtain ⟨h1, h2, h3⟩ := nl_ok nn
  obtain ⟨k1, k2⟩ := nmOf_at V3 (NL nn) (by rw [h1, v3_len]) v3_nodup
  refine ⟨fun x hx => ⟨k2 x hx, ?_⟩, inj_map V3 (by rw [show V3.map (rnF nn) = V3.map (nmOf V3 (NL nn)) from rfl, k1]; exact h2)⟩
  have : rnF nn x ∈ V3.map (rnF nn) := List.mem_map.2 ⟨x, hx, rfl⟩
  rw [show V3.map (rnF nn) = V3.map (nmOf V3 (NL nn)) from rfl, k1] at this
  exact this
theorem sok_closed {V : List ByteArray} {t : T} {lc : List Pr} (h : SOK V t lc) : ClosedBy t lc (fvs [] [] (t :: lc.map (·.2))) := fun u hu x hx => (h.all.1 x).2 ⟨u, hu, hx⟩
theorem mod4S (z : Int) : ∃ nn : Nat, nn < 4 ∧ (wrap64 (z.tmod 4 + 4)).tmod 4 = (nn : Int) := by
  have k1 := Int.tmod_lt_of_pos z (show (0 : Int) < 4 by omega)
  have k2 := Int.lt_tmod_of_pos z (show (0 : Int) < 4 by omega)
  have e : wrap64 (z.tmod 4 + 4) = z.tmod 4 + 4 := by unfold wrap64; omega
  rw [e]
  have k3 := Int.tmod_lt_of_pos (z.tmod 4 + 4) (show (0 : Int) < 4 by omega)
  have k4 := Int.tmod_nonneg (4 : Int) (show 0 ≤ z.tmod 4 + 4 by omega)
  exact ⟨((z.tmod 4 + 4).tmod 4).toNat, by omega, by omega⟩
theorem tab_at (B : Nat) : ∀ (nn : Nat) (h : nn < 4), ([Value.slice (some ⟨B, 0, none⟩) 3 3, .slice (some ⟨B + 1, 0, none⟩) 3 3, .slice (some ⟨B + 1 + 1, 0, none⟩) 3 3, .slice (some ⟨B + 1 + 1 + 1, 0, none⟩) 3 3][nn]'h) = .slice (some ⟨B + nn, 0, none⟩) 3 3
  | 0, _ => rfl
  | 1, _ => rfl
  | 2, _ => rfl
  | 3, _ => rfl
  | n + 4, h => by omega
end Go.Proofs.YtjnlchhikdfifaaGreatDoor
/- SchemeNames: what its statements keep. -/
namespace Go.Proofs.YtjnlchhikdfifaaGreatDoor
open Go.RowKit Go.Sort Go.Lib
attribute [local go_sem] Oper.semAt_some

/-- What the renamed scheme is made of. -/
def NmC (w : World) (b7 m : Nat) (t : T) (pa ba ka : Option Addr) (ca bn bc kc : Nat) (ds : List PR) (lr : List Pr) (V : World) : Prop := BoxT b7 t pa ca V ∧ GivenG 53 (.slice ba bn bc) ds V ∧ Typ ds V ∧ PrsAt V (.slice ka m kc) lr ∧ Below w.heap.size w V
theorem NmC.below {w : World} {b7 m : Nat} {t : T} {pa ba ka : Option Addr} {ca bn bc kc : Nat} {ds : List PR} {lr : List Pr} {V Y : World} (h : NmC w b7 m t pa ba ka ca bn bc kc ds lr V) (hb : Below V.heap.size V Y) : NmC w b7 m t pa ba ka ca bn bc kc ds lr Y :=
  ⟨h.1.below hb, h.2.1.below hb, fun x hx => (h.2.2.1 x hx).keep (KeepT.of_below hb), h.2.2.2.1.belowG hb, h.2.2.2.2.trans (hb.mono h.2.2.2.2.size)⟩
/-- A scheme in its block. -/
def NmB (b : Nat) (t : T) (lc : List Pr) (xs : List ByteArray) (ta ca xa : Option Addr) (tc cc xc : Nat) (V : World) : Prop := V.heap[b]? = some (.cells #[.slice xa xs.length xc, .slice ca lc.length cc, .int .i64 t.kind, .string t.name, .slice ta t.kids.length tc] 33 (0, 0)) ∧ SmD t lc xs ta ca xa tc cc xc V
theorem NmB.below {b : Nat} {t : T} {lc : List Pr} {xs : List ByteArray} {ta ca xa : Option Addr} {tc cc xc : Nat} {V Y : World} (h : NmB b t lc xs ta ca xa tc cc xc V) (hb : Below V.heap.size V Y) : NmB b t lc xs ta ca xa tc cc xc Y := ⟨(hb.block b (Array.getElem?_eq_some_iff.1 h.1).1).trans h.1, h.2.keepO (KeepO.of_below hb)⟩
/-- All three. -/
def NmZ (w : World) (b9 b15 b16 : Nat) (t s u : T) (lc ld l2 : List Pr) (F L zl : List ByteArray) (ta ca fa sa da la ua pa za : Option Addr) (tc cc fc sc dc lk uc pc zc : Nat) (V : World) : Prop :=
  NmB b9 t lc F ta ca fa tc cc fc V ∧ NmB b15 s ld L sa da la sc dc lk V ∧ NmB b16 u l2 zl ua pa za uc pc zc V ∧ Below w.heap.size w V
theorem NmZ.below {w : World} {b9 b15 b16 : Nat} {t s u : T} {lc ld l2 : List Pr} {F L zl : List ByteArray} {ta ca fa sa da la ua pa za : Option Addr} {tc cc fc sc dc lk uc pc zc : Nat} {V Y : World} (h : NmZ w b9 b15 b16 t s u lc ld l2 F L zl ta ca fa sa da la ua pa za tc cc fc sc dc lk uc pc zc V) (hb : Below V.heap.size V Y) : NmZ w b9 b15 b16 t s u lc ld l2 F L zl ta ca fa sa da la ua pa za tc cc fc sc dc lk uc pc zc Y :=
  ⟨h.1.below hb, h.2.1.below hb, h.2.2.1.below hb, h.2.2.2.trans (hb.mono h.2.2.2.size)⟩
end Go.Proofs.YtjnlchhikdfifaaGreatDoor
/- SchemeNames: one pair more: its last statement, a region of 14 operations that draws its order, by an invariant. (Made by a program.) -/
namespace Go.Proofs.YtjnlchhikdfifaaGreatDoor
open Go.RowKit Go.Maps Go.Sort Go.Lib
attribute [local go_sem] Oper.semAt_some

noncomputable def nmaOps : Array Oper := regionIn 15 (Tryz.f4.body.getD .skip)
def nmaFr (b : Nat → Value) (d : List Deferred) (x : Nat → Value) : Act := { tmps := #[b 0, b 1, b 2, b 3, b 4, b 5, b 6, b 7, b 8, b 9, b 10, b 11, b 12, b 13, b 14, b 15, b 16, b 17, b 18, b 19, b 20, b 21, b 22, b 23, b 24, b 25, b 26, b 27, b 28, b 29, b 30, b 31, b 32, b 33, b 34, b 35, b 36, b 37, b 38, b 39, b 40, b 41, b 42, b 43, b 44, b 45, b 46, b 47, b 48, b 49, b 50, b 51, b 52, b 53, x 0, x 1, x 2, x 3, x 4, x 5, x 6, x 7, x 8, x 9, x 10, x 11, x 12, b 67, b 68, b 69, b 70, b 71, b 72, b 73, b 74, b 75, b 76, b 77, b 78, b 79, b 80, b 81, b 82, b 83, b 84, b 85, b 86, b 87, b 88, b 89, b 90, b 91, b 92, b 93, b 94, b 95, b 96, b 97, b 98, b 99, b 100, b 101, b 102, b 103, b 104, b 105, b 106, b 107, b 108, b 109, b 110, b 111, b 112, b 113, b 114, b 115, b 116, b 117, b 118, b 119, b 120, b 121, b 122, b 123, b 124, b 125, b 126, b 127, b 128, b 129, b 130, b 131, b 132, b 133, b 134, b 135, b 136, b 137, b 138, b 139, b 140, b 141, b 142, b 143, b 144, b 145, b 146, b 147, b 148], defers := d }

def nmaVals (gN ix : Nat) (fx : ByteArray) (pr : PR) (lv : Value) (i : Nat) (v : Value) (V : World) : Prop :=
  match i with
  | 0 => v = lv
  | 1 => ∃ zg, v = .slice (some ⟨zg, 0, none⟩) 3 3 ∧ V.heap[zg]? = some (.cells #[.string ⟨#[97]⟩, .string ⟨#[98]⟩, .string ⟨#[99]⟩] 9 (0, 0))
  | 2 => v = .int .i64 (ix : Int)
  | 3 => ∃ zg, v = .pointer (some ⟨zg, ix, none⟩) ∧ V.heap[zg]? = some (.cells #[.string ⟨#[97]⟩, .string ⟨#[98]⟩, .string ⟨#[99]⟩] 9 (0, 0))
  | 4 => v = .string pr.n
  | 5 => v = .slice (some ⟨gN, 0, none⟩) 3 3
  | 6 => v = .int .i64 (ix : Int)
  | 7 => v = .pointer (some ⟨gN, ix, none⟩)
  | 8 => v = .string fx
  | 9 => v = .agg #[.int .i64 pr.t.kind, .string pr.t.name, .slice pr.a pr.t.kids.length pr.c]
  | 10 => v = .agg #[.string pr.n, .int .i64 pr.t.kind, .string pr.t.name, .slice pr.a pr.t.kids.length pr.c]
  | 11 => ∃ zb, v = .slice (some ⟨zb, 0, none⟩) 1 1 ∧ RowY pr zb V
  | _ => True

theorem nmaVals_keep {gN ix : Nat} {fx : ByteArray} {pr : PR} {lv : Value} (i : Nat) (v : Value) (V Y : World) (h : nmaVals gN ix fx pr lv i v V) (hb : Below V.heap.size V Y) : nmaVals gN ix fx pr lv i v Y := by
  unfold nmaVals at *
  split at h <;> first
    | exact h
    | (obtain ⟨zg, e, h⟩ := h; exact ⟨zg, e, (hb.block zg (Array.getElem?_eq_some_iff.1 h).1).trans h⟩)
    | (obtain ⟨zb, e, h⟩ := h; exact ⟨zb, e, h.below hb⟩)

theorem nma_size : nmaOps.size = 14 := by kernel_rfl
theorem nma_cov : covered nmaOps 12 = true := by kernel_rfl
set_option linter.unusedSimpArgs false in
set_option maxRecDepth 100000 in
set_option maxHeartbeats 8000000 in
theorem nma_region {w1 : World} {gN ix : Nat} {N : List ByteArray} {fx : ByteArray} {pr : PR} {ds : List PR} {lv : Value} (hiN : ix < N.length) (hix3 : ix < 3) (hnm : (#[.string ⟨#[97]⟩, .string ⟨#[98]⟩, .string ⟨#[99]⟩] : Array Value)[ix]? = some (.string pr.n)) (hf : Hid (N.getD ix ⟨#[]⟩ = fx)) (hi0 : (0 : Int) ≤ (ix : Int)) (hi3 : (ix : Int) < 3) (hds : ds.length ≤ 1000) {b : Nat → Value} {d : List Deferred}
    (h11 : b 11 = lv) (h12 : b 12 = .int .i64 (ix : Int)) (h10 : b 10 = .slice (some ⟨gN, 0, none⟩) 3 3)
    (HC9 : ∀ V, (TRow gN N V ∧ FrO w1 ds lv V) → Calls Tryz.prog 25 #[.string fx] V fun e Y => e = .returned (.agg #[.int .i64 pr.t.kind, .string pr.t.name, .slice pr.a pr.t.kids.length pr.c]) ∧ Below V.heap.size V Y)
    {Q : Exit → Act → World → Prop} {ops : Array Oper} (hops : ops = nmaOps) (x0 : Nat → Value) (X : World) (hS : (TRow gN N X.drew ∧ FrO w1 ds lv X.drew))
    (hfin : ∀ (x : Nat → Value) V g9 c9 w9, (TRow gN N V ∧ FrO w1 ds lv V) → w9.ownsRow w1.heap.size 53 4 (.slice (some ⟨g9, 0, none⟩) (ds.length + 1) c9) (ds.length + 1) (cellsP ds ++ encP pr) → V.grownBy w9 lv.ownBlock → Q .normal (((nmaFr b d x).put (some 66) (.slice (some ⟨g9, 0, none⟩) (ds.length + 1) c9)).put (some 11) (.slice (some ⟨g9, 0, none⟩) (ds.length + 1) c9)) w9) : (Code.region 15 ops true).wp Tryz.prog Q (nmaFr b d x0) X := by
  have HC := Lib.hid (HC9)
  clear HC9
  have hszo : ops.size = 12 + 2 := by rw [hops]; exact nma_size
  have hcovo : covered ops 12 = true := by rw [hops]; exact nma_cov
  refine region_tail (nmaFr b d) (fun V => (TRow gN N V ∧ FrO w1 ds lv V)) (fun V Y => Below V.heap.size V Y) (nmaVals gN ix fx pr lv) x0 12 (by kernel_rfl) rfl hS hszo hcovo (fun V Y h hb => ⟨h.1.below hb, h.2.below hb⟩) (fun i v V Y _ h hb => nmaVals_keep i v V Y h hb) ?_
  have HFIN := Lib.hid hfin
  clear hfin hS hszo hcovo
  obtain ⟨gl, hgl⟩ : ∃ qq, TailAt Tryz.prog (nmaFr b d) (fun V => (TRow gN N V ∧ FrO w1 ds lv V)) (nmaVals gN ix fx pr lv) ops Q 12 = qq := ⟨_, rfl⟩
  rw [hgl]
  obtain ⟨f, hf⟩ : ∃ qq, StepAt Tryz.prog (nmaFr b d) (fun V => (TRow gN N V ∧ FrO w1 ds lv V)) (fun V Y => Below V.heap.size V Y) (nmaVals gN ix fx pr lv) ops Q = qq := ⟨_, rfl⟩
  rw [hf, hops]
  simp only [nmaOps, Tryz.f4, regionIn, Option.getD_some, Nat.reduceBEq, Bool.false_eq_true, if_false, if_true, beq_self_eq_true, Array.append_empty, Array.empty_append, List.append_eq, List.cons_append, List.nil_append, AllTail, Nat.reduceAdd, Nat.zero_add]
  -- 0: slot 54 := Op.move t11
  refine And.intro ?_ ?_
  · clear HFIN hgl
    rw [← hf]; clear hf
    refine ⟨by decide +kernel, fun x v => by kernel_rfl, fun x V hV hdep K hK => ?_⟩
    clear hdep
    refine run_bare (by kernel_rfl) ?_
    unfold nmaFr
    go_simp
    refine kfit (hK _ _ (Below.refl _ V) rfl) ?_
    first | (simp only [nmaFr, Act.put, List.setIfInBounds_toArray, List.set_cons_zero, List.set_cons_succ, h11, h12, h10]; done) | (simp only [nmaFr, Act.put, List.setIfInBounds_toArray, List.set_cons_zero, List.set_cons_succ, h11, h12, h10]; rfl)
  -- 1: slot 55 := Op.buildSlice 23 3 #[(0, const (Value.string { data := #[97]
  refine And.intro ?_ ?_
  · clear HFIN hgl
    rw [← hf]; clear hf
    refine ⟨by decide +kernel, fun x v => by kernel_rfl, fun x V hV hdep K hK => ?_⟩
    clear hdep
    refine run_bare (by kernel_rfl) ?_
    unfold nmaFr
    go_simp
    refine kfit (hK _ _ (below_a _ _) ⟨_, rfl, alloc_new V _⟩) ?_
    first | (simp only [nmaFr, Act.put, List.setIfInBounds_toArray, List.set_cons_zero, List.set_cons_succ, h11, h12, h10]; done) | (simp only [nmaFr, Act.put, List.setIfInBounds_toArray, List.set_cons_zero, List.set_cons_succ, h11, h12, h10]; rfl)
  -- 2: slot 56 := Op.move t12
  refine And.intro ?_ ?_
  · clear HFIN hgl
    rw [← hf]; clear hf
    refine ⟨by decide +kernel, fun x v => by kernel_rfl, fun x V hV hdep K hK => ?_⟩
    clear hdep
    refine run_bare (by kernel_rfl) ?_
    unfold nmaFr
    go_simp
    refine kfit (hK _ _ (Below.refl _ V) rfl) ?_
    first | (simp only [nmaFr, Act.put, List.setIfInBounds_toArray, List.set_cons_zero, List.set_cons_succ, h11, h12, h10]; done) | (simp only [nmaFr, Act.put, List.setIfInBounds_toArray, List.set_cons_zero, List.set_cons_succ, h11, h12, h10]; rfl)
  -- 3: slot 57 := Op.indexAddr 23 t55 t56
  refine And.intro ?_ ?_
  · clear HFIN hgl
    rw [← hf]; clear hf
    refine ⟨by decide +kernel, fun x v => by kernel_rfl, fun x V hV hdep K hK => ?_⟩
    obtain ⟨zg1, e1, d1⟩ : ∃ zg1, x 1 = .slice (some ⟨zg1, 0, none⟩) 3 3 ∧ V.heap[zg1]? = some (.cells #[.string ⟨#[97]⟩, .string ⟨#[98]⟩, .string ⟨#[99]⟩] 9 (0, 0)) := depOf hdep 1 (by decide +kernel)
    have e2 : x 2 = .int .i64 (ix : Int) := depOf hdep 2 (by decide +kernel)
    clear hdep
    refine run_bare (by kernel_rfl) ?_
    unfold nmaFr
    go_simp
    refine kfit (hK _ _ (Below.refl _ V) ⟨_, rfl, d1⟩) ?_
    first | (simp only [nmaFr, Act.put, List.setIfInBounds_toArray, List.set_cons_zero, List.set_cons_succ, h11, h12, h10, e1, e2]; done) | (simp only [nmaFr, Act.put, List.setIfInBounds_toArray, List.set_cons_zero, List.set_cons_succ, h11, h12, h10, e1, e2]; rfl)
  -- 4: slot 58 := Op.load 9 t57
  refine And.intro ?_ ?_
  · clear HFIN hgl
    rw [← hf]; clear hf
    refine ⟨by decide +kernel, fun x v => by kernel_rfl, fun x V hV hdep K hK => ?_⟩
    obtain ⟨zg3, e3, d3⟩ : ∃ zg3, x 3 = .pointer (some ⟨zg3, ix, none⟩) ∧ V.heap[zg3]? = some (.cells #[.string ⟨#[97]⟩, .string ⟨#[98]⟩, .string ⟨#[99]⟩] 9 (0, 0)) := depOf hdep 3 (by decide +kernel)
    clear hdep
    refine run_bare (by kernel_rfl) ?_
    unfold nmaFr
    have y9 : V.cell? ⟨zg3, ix, none⟩ = some (.string pr.n) := by rw [Lib.cell_of_heap d3]; exact hnm
    have y6 := hV.1.cell hiN; rw [hf.out] at y6
    go_simp
    refine kfit (hK _ _ (Below.refl _ V) rfl) ?_
    first | (simp only [nmaFr, Act.put, List.setIfInBounds_toArray, List.set_cons_zero, List.set_cons_succ, h11, h12, h10, e3]; done) | (simp only [nmaFr, Act.put, List.setIfInBounds_toArray, List.set_cons_zero, List.set_cons_succ, h11, h12, h10, e3]; rfl)
  -- 5: slot 59 := Op.move t10
  refine And.intro ?_ ?_
  · clear HFIN hgl
    rw [← hf]; clear hf
    refine ⟨by decide +kernel, fun x v => by kernel_rfl, fun x V hV hdep K hK => ?_⟩
    clear hdep
    refine run_bare (by kernel_rfl) ?_
    unfold nmaFr
    go_simp
    refine kfit (hK _ _ (Below.refl _ V) rfl) ?_
    first | (simp only [nmaFr, Act.put, List.setIfInBounds_toArray, List.set_cons_zero, List.set_cons_succ, h11, h12, h10]; done) | (simp only [nmaFr, Act.put, List.setIfInBounds_toArray, List.set_cons_zero, List.set_cons_succ, h11, h12, h10]; rfl)
  -- 6: slot 60 := Op.move t12
  refine And.intro ?_ ?_
  · clear HFIN hgl
    rw [← hf]; clear hf
    refine ⟨by decide +kernel, fun x v => by kernel_rfl, fun x V hV hdep K hK => ?_⟩
    clear hdep
    refine run_bare (by kernel_rfl) ?_
    unfold nmaFr
    go_simp
    refine kfit (hK _ _ (Below.refl _ V) rfl) ?_
    first | (simp only [nmaFr, Act.put, List.setIfInBounds_toArray, List.set_cons_zero, List.set_cons_succ, h11, h12, h10]; done) | (simp only [nmaFr, Act.put, List.setIfInBounds_toArray, List.set_cons_zero, List.set_cons_succ, h11, h12, h10]; rfl)
  -- 7: slot 61 := Op.indexAddr 23 t59 t60
  refine And.intro ?_ ?_
  · clear HFIN hgl
    rw [← hf]; clear hf
    refine ⟨by decide +kernel, fun x v => by kernel_rfl, fun x V hV hdep K hK => ?_⟩
    have e5 : x 5 = .slice (some ⟨gN, 0, none⟩) 3 3 := depOf hdep 5 (by decide +kernel)
    have e6 : x 6 = .int .i64 (ix : Int) := depOf hdep 6 (by decide +kernel)
    clear hdep
    refine run_bare (by kernel_rfl) ?_
    unfold nmaFr
    go_simp
    refine kfit (hK _ _ (Below.refl _ V) rfl) ?_
    first | (simp only [nmaFr, Act.put, List.setIfInBounds_toArray, List.set_cons_zero, List.set_cons_succ, h11, h12, h10, e5, e6]; done) | (simp only [nmaFr, Act.put, List.setIfInBounds_toArray, List.set_cons_zero, List.set_cons_succ, h11, h12, h10, e5, e6]; rfl)
  -- 8: slot 62 := Op.load 9 t61
  refine And.intro ?_ ?_
  · clear HFIN hgl
    rw [← hf]; clear hf
    refine ⟨by decide +kernel, fun x v => by kernel_rfl, fun x V hV hdep K hK => ?_⟩
    have e7 : x 7 = .pointer (some ⟨gN, ix, none⟩) := depOf hdep 7 (by decide +kernel)
    clear hdep
    refine run_bare (by kernel_rfl) ?_
    unfold nmaFr
    have y6 := hV.1.cell hiN; rw [hf.out] at y6
    go_simp
    refine kfit (hK _ _ (Below.refl _ V) rfl) ?_
    first | (simp only [nmaFr, Act.put, List.setIfInBounds_toArray, List.set_cons_zero, List.set_cons_succ, h11, h12, h10, e7]; done) | (simp only [nmaFr, Act.put, List.setIfInBounds_toArray, List.set_cons_zero, List.set_cons_succ, h11, h12, h10, e7]; rfl)
  -- 9: slot 63 := Op.call { value (Operand.func 25), args := #[t62], argTypes 
  refine And.intro ?_ ?_
  · clear HFIN hgl
    rw [← hf]; clear hf
    refine ⟨by decide +kernel, fun x v => by kernel_rfl, fun x V hV hdep K hK => ?_⟩
    have e8 : x 8 = .string fx := depOf hdep 8 (by decide +kernel)
    clear hdep
    refine run_bare (by kernel_rfl) ?_
    unfold nmaFr
    have HC9 := HC.out
    have H := HC9 V hV
    replace H := Lib.hid H; clear HC9
    go_simp
    go_at_call 25
    refine H.out.mono ?_
    rintro e Y ⟨rfl, hb⟩; refine kfit (hK _ _ hb rfl) ?_
    first | (simp only [nmaFr, Act.put, List.setIfInBounds_toArray, List.set_cons_zero, List.set_cons_succ, h11, h12, h10, e8]; done) | (simp only [nmaFr, Act.put, List.setIfInBounds_toArray, List.set_cons_zero, List.set_cons_succ, h11, h12, h10, e8]; rfl)
  -- 10: slot 64 := Op.build 53 #[(0, t58), (1, t63)]
  refine And.intro ?_ ?_
  · clear HFIN hgl
    rw [← hf]; clear hf
    refine ⟨by decide +kernel, fun x v => by kernel_rfl, fun x V hV hdep K hK => ?_⟩
    have e4 : x 4 = .string pr.n := depOf hdep 4 (by decide +kernel)
    have e9 : x 9 = .agg #[.int .i64 pr.t.kind, .string pr.t.name, .slice pr.a pr.t.kids.length pr.c] := depOf hdep 9 (by decide +kernel)
    clear hdep
    refine run_bare (by kernel_rfl) ?_
    unfold nmaFr
    go_simp
    refine kfit (hK _ _ (Below.refl _ V) rfl) ?_
    first | (simp only [nmaFr, Act.put, List.setIfInBounds_toArray, List.set_cons_zero, List.set_cons_succ, h11, h12, h10, e4, e9]; done) | (simp only [nmaFr, Act.put, List.setIfInBounds_toArray, List.set_cons_zero, List.set_cons_succ, h11, h12, h10, e4, e9]; rfl)
  -- 11: slot 65 := Op.buildSlice 50 1 #[(0, t64)]
  refine And.intro ?_ ?_
  · clear HFIN hgl
    rw [← hf]; clear hf
    refine ⟨by decide +kernel, fun x v => by kernel_rfl, fun x V hV hdep K hK => ?_⟩
    have e10 : x 10 = .agg #[.string pr.n, .int .i64 pr.t.kind, .string pr.t.name, .slice pr.a pr.t.kids.length pr.c] := depOf hdep 10 (by decide +kernel)
    clear hdep
    refine run_bare (by kernel_rfl) ?_
    unfold nmaFr
    go_simp
    refine kfit (hK _ _ (below_a _ _) ⟨_, rfl, alloc_new V _⟩) ?_
    first | (simp only [nmaFr, Act.put, List.setIfInBounds_toArray, List.set_cons_zero, List.set_cons_succ, h11, h12, h10, e10]; done) | (simp only [nmaFr, Act.put, List.setIfInBounds_toArray, List.set_cons_zero, List.set_cons_succ, h11, h12, h10, e10]; rfl)
  -- 12: slot 66 := Op.call { builtin append, args := #[t54, t65], argTypes := #
  · clear HC
    rw [← hgl]; clear hgl
    refine ⟨by decide +kernel, by decide +kernel, ⟨_, Array.mem_of_getElem (i := 0) (h := by decide) rfl, by decide, rfl⟩, fun x V hV hall K hK => ?_⟩
    have e0 : x 0 = lv := hall 0 (by decide)
    obtain ⟨zb, e11, hz⟩ : ∃ zb, x 11 = .slice (some ⟨zb, 0, none⟩) 1 1 ∧ RowY pr zb V := hall 11 (by decide)
    clear hall
    have ho := hV.2.1
    have hsz := hV.2.2.size
    obtain ⟨i0, hi, hz0, hz1, hz2⟩ := info_parts Tryz.infoRefPair
    have HF := Lib.hid (fun g9 c9 w9 => HFIN.out x V g9 c9 w9 hV)
    clear HFIN
    unfold nmaFr at hK ⊢
    refine step_append_lies V (by kernel_rfl) (.tmp 54) (.tmp 65) 50 (by kernel_rfl) w1.heap.size 53 i0 (.agg zeroP) 4 64 Tryz.underlying50 hi hz0 hz1 hz2 rfl (by decide) lv ds.length (cellsP ds) e0 ho ⟨zb, 0, none⟩ 1 1 (encP pr) e11 rfl (World.news_of_block hz) (encP_one pr) (by decide) (by unfold maxLen; omega) (by omega) hsz V.heap.size rfl ?_
    intro g9 c9 w9 hown9 hgr9 _ _
    have H := Lib.hid (HF.out g9 c9 w9 hown9 hgr9)
    clear HF hown9 hgr9 hV ho hz
    unfold nmaFr at H
    refine hK _ _ fun K2 hK2 => run_bare (by kernel_rfl) ?_
    clear hK
    go_simp
    refine kfit (hK2 _ _ H.out) ?_
    first | (simp only [Act.put, List.setIfInBounds_toArray, List.set_cons_zero, List.set_cons_succ, h10, h11, h12, e0, e11]; done) | (simp only [Act.put, List.setIfInBounds_toArray, List.set_cons_zero, List.set_cons_succ, h10, h11, h12, e0, e11]; rfl)
  -- 13: slot 11 := Op.assign t66
theorem nma_here {w1 : World} {gN ix : Nat} {N : List ByteArray} {fx : ByteArray} {pr : PR} {ds : List PR} {lv : Value} (hiN : ix < N.length) (hix3 : ix < 3) (hnm : (#[.string ⟨#[97]⟩, .string ⟨#[98]⟩, .string ⟨#[99]⟩] : Array Value)[ix]? = some (.string pr.n)) (hf : Hid (N.getD ix ⟨#[]⟩ = fx)) (hi0 : (0 : Int) ≤ (ix : Int)) (hi3 : (ix : Int) < 3) (hds : ds.length ≤ 1000)
    (HC9 : ∀ V, (TRow gN N V ∧ FrO w1 ds lv V) → Calls Tryz.prog 25 #[.string fx] V fun e Y => e = .returned (.agg #[.int .i64 pr.t.kind, .string pr.t.name, .slice pr.a pr.t.kids.length pr.c]) ∧ Below V.heap.size V Y)
    {Q : Exit → Act → World → Prop} {ops : Array Oper} {a : Act} (X : World) (hops : ops = nmaOps)
    (h11 : a.tmps.getD 11 undef = lv) (h12 : a.tmps.getD 12 undef = .int .i64 (ix : Int)) (h10 : a.tmps.getD 10 undef = .slice (some ⟨gN, 0, none⟩) 3 3)
    (ha : a = nmaFr (fun j => a.tmps.getD j undef) a.defers (fun i => a.tmps.getD (54 + i) undef)) (hS : (TRow gN N X.drew ∧ FrO w1 ds lv X.drew))
    (hfin : ∀ (x : Nat → Value) V g9 c9 w9, (TRow gN N V ∧ FrO w1 ds lv V) → w9.ownsRow w1.heap.size 53 4 (.slice (some ⟨g9, 0, none⟩) (ds.length + 1) c9) (ds.length + 1) (cellsP ds ++ encP pr) → V.grownBy w9 lv.ownBlock → Q .normal (((nmaFr (fun j => a.tmps.getD j undef) a.defers x).put (some 66) (.slice (some ⟨g9, 0, none⟩) (ds.length + 1) c9)).put (some 11) (.slice (some ⟨g9, 0, none⟩) (ds.length + 1) c9)) w9) : (Code.region 15 ops true).wp Tryz.prog Q a X :=
  cast (congrArg (fun z => (Code.region 15 ops true).wp Tryz.prog Q z X) ha.symm) (nma_region hiN hix3 hnm hf hi0 hi3 hds (b := fun j => a.tmps.getD j undef) (d := a.defers) h11 h12 h10 HC9 hops _ X hS hfin)
end Go.Proofs.YtjnlchhikdfifaaGreatDoor
/- SchemeNames: the renamed scheme: its last statement, a region of 9 operations that draws its order, by an invariant. (Made by a program.) -/
namespace Go.Proofs.YtjnlchhikdfifaaGreatDoor
open Go.RowKit Go.Sort Go.Lib
attribute [local go_sem] Oper.semAt_some

noncomputable def nmbOps : Array Oper := regionIn 21 (Tryz.f4.body.getD .skip)
def nmbFr (b : Nat → Value) (d : List Deferred) (x : Nat → Value) : Act := { tmps := #[b 0, b 1, b 2, b 3, b 4, b 5, b 6, b 7, b 8, b 9, b 10, b 11, b 12, b 13, b 14, x 7, b 16, b 17, b 18, b 19, b 20, b 21, b 22, b 23, b 24, b 25, b 26, b 27, b 28, b 29, b 30, b 31, b 32, b 33, b 34, b 35, b 36, b 37, b 38, b 39, b 40, b 41, b 42, b 43, b 44, b 45, b 46, b 47, b 48, b 49, b 50, b 51, b 52, b 53, b 54, b 55, b 56, b 57, b 58, b 59, b 60, b 61, b 62, b 63, b 64, b 65, b 66, b 67, b 68, b 69, b 70, b 71, b 72, b 73, b 74, b 75, b 76, b 77, b 78, b 79, b 80, x 0, x 1, x 2, x 3, x 4, x 5, x 6, b 88, b 89, b 90, b 91, b 92, b 93, b 94, b 95, b 96, b 97, b 98, b 99, b 100, b 101, b 102, b 103, b 104, b 105, b 106, b 107, b 108, b 109, b 110, b 111, b 112, b 113, b 114, b 115, b 116, b 117, b 118, b 119, b 120, b 121, b 122, b 123, b 124, b 125, b 126, b 127, b 128, b 129, b 130, b 131, b 132, b 133, b 134, b 135, b 136, b 137, b 138, b 139, b 140, b 141, b 142, b 143, b 144, b 145, b 146, b 147, b 148], defers := d }

def nmbVals (w : World) (m : Nat) (t u : T) (pa ba ka : Option Addr) (ca bn bc kc : Nat) (lu : List Pr) (L : List ByteArray) (i : Nat) (v : Value) (V : World) : Prop :=
  match i with
  | 0 => v = .slice ba bn bc
  | 1 => v = .slice ka m kc
  | 2 => ∃ qa qc, v = .slice qa m qc ∧ PrsAt V (.slice qa m qc) lu
  | 3 => v = .slice ba bn bc
  | 4 => v = .agg #[.int .i64 (t).kind, .string (t).name, .slice pa (t).kids.length ca]
  | 5 => ∃ za zc, v = .agg #[.int .i64 (u).kind, .string (u).name, .slice za (u).kids.length zc] ∧ TysAt V (.slice za u.kids.length zc) u.kids
  | 6 => ∃ xa xc qa qc za zc, v = .agg #[.slice xa L.length xc, .slice qa m qc, .int .i64 u.kind, .string u.name, .slice za u.kids.length zc] ∧ (TextsAt V (.slice xa L.length xc) L ∧ PrsAt V (.slice qa m qc) lu ∧ TysAt V (.slice za u.kids.length zc) u.kids)
  | 7 => ∃ bk, v = .pointer (some ⟨bk, 0, none⟩) ∧ (Sch0 bk V ∧ w.heap.size ≤ bk)
  | _ => True

theorem nmbVals_keep {w : World} {m : Nat} {t u : T} {pa ba ka : Option Addr} {ca bn bc kc : Nat} {lu : List Pr} {L : List ByteArray} (i : Nat) (v : Value) (V Y : World) (h : nmbVals w m t u pa ba ka ca bn bc kc lu L i v V) (hb : Below V.heap.size V Y) : nmbVals w m t u pa ba ka ca bn bc kc lu L i v Y := by
  unfold nmbVals at *
  split at h <;> first
    | exact h
    | (obtain ⟨qa, qc, e, h⟩ := h; exact ⟨qa, qc, e, h.belowG hb⟩)
    | (obtain ⟨za, zc, e, h⟩ := h; exact ⟨za, zc, e, h.keep (KeepT.of_below hb)⟩)
    | (obtain ⟨xa, xc, qa, qc, za, zc, e, h⟩ := h; exact ⟨xa, xc, qa, qc, za, zc, e, ⟨h.1.below hb, h.2.1.belowG hb, h.2.2.keep (KeepT.of_below hb)⟩⟩)
    | (obtain ⟨bk, e, h⟩ := h; exact ⟨bk, e, ⟨h.1.below hb, h.2⟩⟩)

theorem nmb_size : nmbOps.size = 9 := by kernel_rfl
theorem nmb_cov : covered nmbOps 8 = true := by kernel_rfl
set_option linter.unusedSimpArgs false in
set_option maxRecDepth 100000 in
set_option maxHeartbeats 8000000 in
theorem nmb_region {w : World} {b7 m : Nat} {t u : T} {pa ba ka : Option Addr} {ca bn bc kc : Nat} {ds : List PR} {lr lu : List Pr} {L : List ByteArray} {b : Nat → Value} {d : List Deferred}
    (h7 : b 7 = .pointer (some ⟨b7, 0, none⟩)) (h11 : b 11 = .slice ba bn bc) (h13 : b 13 = .slice ka m kc)
    (HC2 : ∀ V, NmC w b7 m t pa ba ka ca bn bc kc ds lr V → Calls Tryz.prog 26 #[.slice ba bn bc, .slice ka m kc] V fun e Y => (∃ qa qc, e = .returned (.slice qa m qc) ∧ PrsAt Y (.slice qa m qc) lu) ∧ Below V.heap.size V Y)
    (HC5 : ∀ V, NmC w b7 m t pa ba ka ca bn bc kc ds lr V → Calls Tryz.prog 27 #[.slice ba bn bc, .agg #[.int .i64 (t).kind, .string (t).name, .slice pa (t).kids.length ca]] V fun e Y => (∃ za zc, e = .returned (.agg #[.int .i64 (u).kind, .string (u).name, .slice za (u).kids.length zc]) ∧ TysAt Y (.slice za u.kids.length zc) u.kids) ∧ Below V.heap.size V Y)
    (HC6 : ∀ V, NmC w b7 m t pa ba ka ca bn bc kc ds lr V → ∀ qa2, ∀ qc2, PrsAt V (.slice qa2 m qc2) lu → ∀ za5, ∀ zc5, TysAt V (.slice za5 u.kids.length zc5) u.kids → Calls Tryz.prog 17 #[.slice qa2 m qc2, .agg #[.int .i64 (u).kind, .string (u).name, .slice za5 (u).kids.length zc5], .slice none 0 0] V fun e Y => (∃ xa xc qa qc za zc, e = .returned (.agg #[.slice xa L.length xc, .slice qa m qc, .int .i64 u.kind, .string u.name, .slice za u.kids.length zc]) ∧ (TextsAt Y (.slice xa L.length xc) L ∧ PrsAt Y (.slice qa m qc) lu ∧ TysAt Y (.slice za u.kids.length zc) u.kids)) ∧ Below V.heap.size V Y)
    {Q : Exit → Act → World → Prop} {ops : Array Oper} (hops : ops = nmbOps) (x0 : Nat → Value) (X : World) (hS : NmC w b7 m t pa ba ka ca bn bc kc ds lr X.drew)
    (hfin : ∀ (x : Nat → Value) V bk xa xc qa qc za zc, NmC w b7 m t pa ba ka ca bn bc kc ds lr V → x 7 = .pointer (some ⟨bk, 0, none⟩) → (Sch0 bk V ∧ w.heap.size ≤ bk) → (TextsAt V (.slice xa L.length xc) L ∧ PrsAt V (.slice qa m qc) lu ∧ TysAt V (.slice za u.kids.length zc) u.kids) → Q .normal (nmbFr b d x) (set5 V bk (.slice xa L.length xc) (.slice qa m qc) (.int .i64 u.kind) (.string u.name) (.slice za u.kids.length zc))) : (Code.region 21 ops true).wp Tryz.prog Q (nmbFr b d x0) X := by
  have HC := Lib.hid (And.intro HC2 (And.intro HC5 HC6))
  clear HC2 HC5 HC6
  have hszo : ops.size = 8 + 1 := by rw [hops]; exact nmb_size
  have hcovo : covered ops 8 = true := by rw [hops]; exact nmb_cov
  refine region_last (nmbFr b d) (fun V => NmC w b7 m t pa ba ka ca bn bc kc ds lr V) (fun V Y => Below V.heap.size V Y) (nmbVals w m t u pa ba ka ca bn bc kc lu L) x0 8 (by kernel_rfl) rfl hS hszo hcovo (fun V Y h hb => h.below hb) (fun i v V Y _ h hb => nmbVals_keep i v V Y h hb) ?_
  have HFIN := Lib.hid hfin
  clear hfin hS hszo hcovo
  obtain ⟨gl, hgl⟩ : ∃ qq, LastAt Tryz.prog (nmbFr b d) (fun V => NmC w b7 m t pa ba ka ca bn bc kc ds lr V) (nmbVals w m t u pa ba ka ca bn bc kc lu L) ops Q 8 = qq := ⟨_, rfl⟩
  rw [hgl]
  obtain ⟨f, hf⟩ : ∃ qq, StepAt Tryz.prog (nmbFr b d) (fun V => NmC w b7 m t pa ba ka ca bn bc kc ds lr V) (fun V Y => Below V.heap.size V Y) (nmbVals w m t u pa ba ka ca bn bc kc lu L) ops Q = qq := ⟨_, rfl⟩
  rw [hf, hops]
  simp only [nmbOps, Tryz.f4, regionIn, Option.getD_some, Nat.reduceBEq, Bool.false_eq_true, if_false, if_true, beq_self_eq_true, Array.append_empty, Array.empty_append, List.append_eq, List.cons_append, List.nil_append, AllBut, Nat.reduceAdd, Nat.zero_add]
  -- 0: slot 81 := Op.move t11
  refine And.intro ?_ ?_
  · clear HFIN hgl
    rw [← hf]; clear hf
    refine ⟨by decide +kernel, fun x v => by kernel_rfl, fun x V hV hdep K hK => ?_⟩
    clear hdep
    refine run_bare (by kernel_rfl) ?_
    unfold nmbFr
    go_simp
    refine kfit (hK _ _ (Below.refl _ V) rfl) ?_
    first | (simp only [nmbFr, Act.put, List.setIfInBounds_toArray, List.set_cons_zero, List.set_cons_succ, h7, h11, h13]; done) | (simp only [nmbFr, Act.put, List.setIfInBounds_toArray, List.set_cons_zero, List.set_cons_succ, h7, h11, h13]; rfl)
  -- 1: slot 82 := Op.move t13
  refine And.intro ?_ ?_
  · clear HFIN hgl
    rw [← hf]; clear hf
    refine ⟨by decide +kernel, fun x v => by kernel_rfl, fun x V hV hdep K hK => ?_⟩
    clear hdep
    refine run_bare (by kernel_rfl) ?_
    unfold nmbFr
    go_simp
    refine kfit (hK _ _ (Below.refl _ V) rfl) ?_
    first | (simp only [nmbFr, Act.put, List.setIfInBounds_toArray, List.set_cons_zero, List.set_cons_succ, h7, h11, h13]; done) | (simp only [nmbFr, Act.put, List.setIfInBounds_toArray, List.set_cons_zero, List.set_cons_succ, h7, h11, h13]; rfl)
  -- 2: slot 83 := Op.call { value (Operand.func 26), args := #[t81, t82], argT
  refine And.intro ?_ ?_
  · clear HFIN hgl
    rw [← hf]; clear hf
    refine ⟨by decide +kernel, fun x v => by kernel_rfl, fun x V hV hdep K hK => ?_⟩
    have e0 : x 0 = .slice ba bn bc := depOf hdep 0 (by decide +kernel)
    have e1 : x 1 = .slice ka m kc := depOf hdep 1 (by decide +kernel)
    clear hdep
    refine run_bare (by kernel_rfl) ?_
    unfold nmbFr
    obtain ⟨HC2, HC5, HC6⟩ := HC.out
    clear HC5 HC6
    have H := HC2 V hV
    replace H := Lib.hid H; clear HC2
    go_simp
    go_at_call 26
    refine H.out.mono ?_
    rintro e Y ⟨⟨qa, qc, rfl, hq⟩, hb⟩; refine kfit (hK _ _ hb ⟨qa, qc, rfl, hq⟩) ?_
    first | (simp only [nmbFr, Act.put, List.setIfInBounds_toArray, List.set_cons_zero, List.set_cons_succ, h7, h11, h13, e0, e1]; done) | (simp only [nmbFr, Act.put, List.setIfInBounds_toArray, List.set_cons_zero, List.set_cons_succ, h7, h11, h13, e0, e1]; rfl)
  -- 3: slot 84 := Op.move t11
  refine And.intro ?_ ?_
  · clear HFIN hgl
    rw [← hf]; clear hf
    refine ⟨by decide +kernel, fun x v => by kernel_rfl, fun x V hV hdep K hK => ?_⟩
    clear hdep
    refine run_bare (by kernel_rfl) ?_
    unfold nmbFr
    go_simp
    refine kfit (hK _ _ (Below.refl _ V) rfl) ?_
    first | (simp only [nmbFr, Act.put, List.setIfInBounds_toArray, List.set_cons_zero, List.set_cons_succ, h7, h11, h13]; done) | (simp only [nmbFr, Act.put, List.setIfInBounds_toArray, List.set_cons_zero, List.set_cons_succ, h7, h11, h13]; rfl)
  -- 4: slot 85 := Op.load 31 t7
  refine And.intro ?_ ?_
  · clear HFIN hgl
    rw [← hf]; clear hf
    refine ⟨by decide +kernel, fun x v => by kernel_rfl, fun x V hV hdep K hK => ?_⟩
    clear hdep
    refine run_bare (by kernel_rfl) ?_
    unfold nmbFr
    obtain ⟨y0, y1, y2⟩ := hV.1.cells
    go_simp
    refine kfit (hK _ _ (Below.refl _ V) rfl) ?_
    first | (simp only [nmbFr, Act.put, List.setIfInBounds_toArray, List.set_cons_zero, List.set_cons_succ, h7, h11, h13]; done) | (simp only [nmbFr, Act.put, List.setIfInBounds_toArray, List.set_cons_zero, List.set_cons_succ, h7, h11, h13]; rfl)
  -- 5: slot 86 := Op.call { value (Operand.func 27), args := #[t84, t85], argT
  refine And.intro ?_ ?_
  · clear HFIN hgl
    rw [← hf]; clear hf
    refine ⟨by decide +kernel, fun x v => by kernel_rfl, fun x V hV hdep K hK => ?_⟩
    have e3 : x 3 = .slice ba bn bc := depOf hdep 3 (by decide +kernel)
    have e4 : x 4 = .agg #[.int .i64 (t).kind, .string (t).name, .slice pa (t).kids.length ca] := depOf hdep 4 (by decide +kernel)
    clear hdep
    refine run_bare (by kernel_rfl) ?_
    unfold nmbFr
    obtain ⟨HC2, HC5, HC6⟩ := HC.out
    clear HC2 HC6
    have H := HC5 V hV
    replace H := Lib.hid H; clear HC5
    go_simp
    go_at_call 27
    refine H.out.mono ?_
    rintro e Y ⟨⟨za, zc, rfl, hq⟩, hb⟩; refine kfit (hK _ _ hb ⟨za, zc, rfl, hq⟩) ?_
    first | (simp only [nmbFr, Act.put, List.setIfInBounds_toArray, List.set_cons_zero, List.set_cons_succ, h7, h11, h13, e3, e4]; done) | (simp only [nmbFr, Act.put, List.setIfInBounds_toArray, List.set_cons_zero, List.set_cons_succ, h7, h11, h13, e3, e4]; rfl)
  -- 6: slot 87 := Op.call { value (Operand.func 17), args := #[t83, t86, const
  refine And.intro ?_ ?_
  · clear HFIN hgl
    rw [← hf]; clear hf
    refine ⟨by decide +kernel, fun x v => by kernel_rfl, fun x V hV hdep K hK => ?_⟩
    obtain ⟨qa2, qc2, e2, d2⟩ : ∃ qa2 qc2, x 2 = .slice qa2 m qc2 ∧ PrsAt V (.slice qa2 m qc2) lu := depOf hdep 2 (by decide +kernel)
    obtain ⟨za5, zc5, e5, d5⟩ : ∃ za5 zc5, x 5 = .agg #[.int .i64 (u).kind, .string (u).name, .slice za5 (u).kids.length zc5] ∧ TysAt V (.slice za5 u.kids.length zc5) u.kids := depOf hdep 5 (by decide +kernel)
    clear hdep
    refine run_bare (by kernel_rfl) ?_
    unfold nmbFr
    obtain ⟨HC2, HC5, HC6⟩ := HC.out
    clear HC2 HC5
    have H := HC6 V hV _ _ d2 _ _ d5
    replace H := Lib.hid H; clear HC6
    go_simp
    go_at_call 17
    refine H.out.mono ?_
    rintro e Y ⟨⟨xa, xc, qa, qc, za, zc, rfl, hq⟩, hb⟩; refine kfit (hK _ _ hb ⟨xa, xc, qa, qc, za, zc, rfl, hq⟩) ?_
    first | (simp only [nmbFr, Act.put, List.setIfInBounds_toArray, List.set_cons_zero, List.set_cons_succ, h7, h11, h13, e2, e5]; done) | (simp only [nmbFr, Act.put, List.setIfInBounds_toArray, List.set_cons_zero, List.set_cons_succ, h7, h11, h13, e2, e5]; rfl)
  -- 7: slot 15 := Op.alloc 33
  refine And.intro ?_ ?_
  · clear HFIN hgl
    rw [← hf]; clear hf
    refine ⟨by decide +kernel, fun x v => by kernel_rfl, fun x V hV hdep K hK => ?_⟩
    clear hdep
    refine run_bare (by kernel_rfl) ?_
    unfold nmbFr
    go_simp
    refine kfit (hK _ _ (below_a _ _) ⟨_, rfl, ⟨alloc_new V _, hV.2.2.2.2.size⟩⟩) ?_
    first | (simp only [nmbFr, Act.put, List.setIfInBounds_toArray, List.set_cons_zero, List.set_cons_succ, h7, h11, h13]; done) | (simp only [nmbFr, Act.put, List.setIfInBounds_toArray, List.set_cons_zero, List.set_cons_succ, h7, h11, h13]; rfl)
  -- 8: slot none := Op.store 33 t15 t87
  · clear HC
    rw [← hgl]; clear hgl
    refine ⟨by decide +kernel, fun x V hV hall K hK => ?_⟩
    obtain ⟨xa, xc, qa, qc, za, zc, e6, d6⟩ : ∃ (xa : Option Addr) (xc : Nat) (qa : Option Addr) (qc : Nat) (za : Option Addr) (zc : Nat), x 6 = .agg #[.slice xa L.length xc, .slice qa m qc, .int .i64 u.kind, .string u.name, .slice za u.kids.length zc] ∧ (TextsAt V (.slice xa L.length xc) L ∧ PrsAt V (.slice qa m qc) lu ∧ TysAt V (.slice za u.kids.length zc) u.kids) := hall 6 (by decide)
    obtain ⟨bk, e7, d7⟩ : ∃ bk, x 7 = .pointer (some ⟨bk, 0, none⟩) ∧ (Sch0 bk V ∧ w.heap.size ≤ bk) := hall 7 (by decide)
    clear hall
    refine run_bare (by kernel_rfl) ?_
    unfold nmbFr
    obtain ⟨v0, v1, v2, v3, v4⟩ := cells5 d7.1
    have f0 := Lib.frozen_of_heap d7.1 0; have f1 := Lib.frozen_of_heap d7.1 1; have f2 := Lib.frozen_of_heap d7.1 2; have f3 := Lib.frozen_of_heap d7.1 3; have f4 := Lib.frozen_of_heap d7.1 4
    have H := Lib.hid (HFIN.out x V bk xa xc qa qc za zc hV e7 d7 d6)
    clear HFIN hV d6 d7
    go_simp
    refine kfit (hK undef _ H.out) ?_
    first | (simp only [nmbFr, Act.put, List.setIfInBounds_toArray, List.set_cons_zero, List.set_cons_succ, h7, h11, h13, e6, e7]; done) | (simp only [nmbFr, Act.put, List.setIfInBounds_toArray, List.set_cons_zero, List.set_cons_succ, h7, h11, h13, e6, e7]; rfl)
theorem nmb_here {w : World} {b7 m : Nat} {t u : T} {pa ba ka : Option Addr} {ca bn bc kc : Nat} {ds : List PR} {lr lu : List Pr} {L : List ByteArray}
    (HC2 : ∀ V, NmC w b7 m t pa ba ka ca bn bc kc ds lr V → Calls Tryz.prog 26 #[.slice ba bn bc, .slice ka m kc] V fun e Y => (∃ qa qc, e = .returned (.slice qa m qc) ∧ PrsAt Y (.slice qa m qc) lu) ∧ Below V.heap.size V Y)
    (HC5 : ∀ V, NmC w b7 m t pa ba ka ca bn bc kc ds lr V → Calls Tryz.prog 27 #[.slice ba bn bc, .agg #[.int .i64 (t).kind, .string (t).name, .slice pa (t).kids.length ca]] V fun e Y => (∃ za zc, e = .returned (.agg #[.int .i64 (u).kind, .string (u).name, .slice za (u).kids.length zc]) ∧ TysAt Y (.slice za u.kids.length zc) u.kids) ∧ Below V.heap.size V Y)
    (HC6 : ∀ V, NmC w b7 m t pa ba ka ca bn bc kc ds lr V → ∀ qa2, ∀ qc2, PrsAt V (.slice qa2 m qc2) lu → ∀ za5, ∀ zc5, TysAt V (.slice za5 u.kids.length zc5) u.kids → Calls Tryz.prog 17 #[.slice qa2 m qc2, .agg #[.int .i64 (u).kind, .string (u).name, .slice za5 (u).kids.length zc5], .slice none 0 0] V fun e Y => (∃ xa xc qa qc za zc, e = .returned (.agg #[.slice xa L.length xc, .slice qa m qc, .int .i64 u.kind, .string u.name, .slice za u.kids.length zc]) ∧ (TextsAt Y (.slice xa L.length xc) L ∧ PrsAt Y (.slice qa m qc) lu ∧ TysAt Y (.slice za u.kids.length zc) u.kids)) ∧ Below V.heap.size V Y)
    {Q : Exit → Act → World → Prop} {ops : Array Oper} {a : Act} (X : World) (hops : ops = nmbOps)
    (h7 : a.tmps.getD 7 undef = .pointer (some ⟨b7, 0, none⟩)) (h11 : a.tmps.getD 11 undef = .slice ba bn bc) (h13 : a.tmps.getD 13 undef = .slice ka m kc)
    (ha : a = nmbFr (fun j => a.tmps.getD j undef) a.defers (fun i => a.tmps.getD (if i = 7 then 15 else 81 + i) undef)) (hS : NmC w b7 m t pa ba ka ca bn bc kc ds lr X.drew)
    (hfin : ∀ (x : Nat → Value) V bk xa xc qa qc za zc, NmC w b7 m t pa ba ka ca bn bc kc ds lr V → x 7 = .pointer (some ⟨bk, 0, none⟩) → (Sch0 bk V ∧ w.heap.size ≤ bk) → (TextsAt V (.slice xa L.length xc) L ∧ PrsAt V (.slice qa m qc) lu ∧ TysAt V (.slice za u.kids.length zc) u.kids) → Q .normal (nmbFr (fun j => a.tmps.getD j undef) a.defers x) (set5 V bk (.slice xa L.length xc) (.slice qa m qc) (.int .i64 u.kind) (.string u.name) (.slice za u.kids.length zc))) : (Code.region 21 ops true).wp Tryz.prog Q a X :=
  cast (congrArg (fun z => (Code.region 21 ops true).wp Tryz.prog Q z X) ha.symm) (nmb_region (b := fun j => a.tmps.getD j undef) (d := a.defers) h7 h11 h13 HC2 HC5 HC6 hops _ X hS hfin)
end Go.Proofs.YtjnlchhikdfifaaGreatDoor
/- SchemeNames: the end: its last statement, a region of 29 operations that draws its order, by an invariant. (Made by a program.) -/
namespace Go.Proofs.YtjnlchhikdfifaaGreatDoor
open Go.RowKit Go.Sort Go.Lib
attribute [local go_sem] Oper.semAt_some

noncomputable def nmtOps : Array Oper := regionIn 33 (Tryz.f4.body.getD .skip)
def nmtFr (b : Nat → Value) (d : List Deferred) (x : Nat → Value) : Act := { tmps := #[b 0, b 1, b 2, b 3, x 28, b 5, b 6, b 7, b 8, b 9, b 10, b 11, b 12, b 13, b 14, b 15, b 16, b 17, b 18, b 19, b 20, b 21, b 22, b 23, b 24, b 25, b 26, b 27, b 28, b 29, b 30, b 31, b 32, b 33, b 34, b 35, b 36, b 37, b 38, b 39, b 40, b 41, b 42, b 43, b 44, b 45, b 46, b 47, b 48, b 49, b 50, b 51, b 52, b 53, b 54, b 55, b 56, b 57, b 58, b 59, b 60, b 61, b 62, b 63, b 64, b 65, b 66, b 67, b 68, b 69, b 70, b 71, b 72, b 73, b 74, b 75, b 76, b 77, b 78, b 79, b 80, b 81, b 82, b 83, b 84, b 85, b 86, b 87, b 88, b 89, b 90, b 91, b 92, b 93, b 94, b 95, b 96, b 97, b 98, b 99, b 100, b 101, b 102, b 103, b 104, b 105, b 106, b 107, b 108, b 109, b 110, b 111, b 112, b 113, b 114, b 115, b 116, b 117, b 118, b 119, b 120, x 0, x 1, x 2, x 3, x 4, x 5, x 6, x 7, x 8, x 9, x 10, x 11, x 12, x 13, x 14, x 15, x 16, x 17, x 18, x 19, x 20, x 21, x 22, x 23, x 24, x 25, x 26, x 27], defers := d }

def nmtVals (t s u : T) (lc ld l2 : List Pr) (F L zl : List ByteArray) (ta ca fa sa da la ua pa za : Option Addr) (tc cc fc sc dc lk uc pc zc : Nat) (i : Nat) (v : Value) (V : World) : Prop :=
  match i with
  | 0 => v = .bool true
  | 1 => v = .bool true
  | 2 => v = .bool true
  | 3 => v = .bool false
  | 4 => v = .bool false
  | 5 => v = .agg #[.slice fa F.length fc, .slice ca lc.length cc, .int .i64 t.kind, .string t.name, .slice ta t.kids.length tc]
  | 6 => v = .agg #[.slice la L.length lk, .slice da ld.length dc, .int .i64 s.kind, .string s.name, .slice sa s.kids.length sc]
  | 7 => v = .bool true
  | 8 => v = .bool true
  | 9 => v = .bool true
  | 10 => v = .bool true
  | 11 => v = .agg #[.slice za zl.length zc, .slice pa l2.length pc, .int .i64 u.kind, .string u.name, .slice ua u.kids.length uc]
  | 12 => ∃ ya yc yp yq yt yu, v = .agg #[.slice ya zl.length yc, .slice yp l2.length yq, .int .i64 u.kind, .string u.name, .slice yt u.kids.length yu] ∧ SmD u l2 zl yt yp ya yu yq yc V
  | 13 => v = .agg #[.slice za zl.length zc, .slice pa l2.length pc, .int .i64 u.kind, .string u.name, .slice ua u.kids.length uc]
  | 14 => v = .bool true
  | 15 => v = .bool true
  | 16 => v = .bool true
  | 17 => v = .agg #[.slice fa F.length fc, .slice ca lc.length cc, .int .i64 t.kind, .string t.name, .slice ta t.kids.length tc]
  | 18 => ∃ ya yc, v = .slice ya 0 yc ∧ True
  | 19 => v = .int .i64 0
  | 20 => v = .bool true
  | 21 => v = .bool true
  | 22 => v = .bool true
  | 23 => v = .agg #[.slice za zl.length zc, .slice pa l2.length pc, .int .i64 u.kind, .string u.name, .slice ua u.kids.length uc]
  | 24 => ∃ ya yc, v = .slice ya 0 yc ∧ True
  | 25 => v = .int .i64 0
  | 26 => v = .bool true
  | 27 => v = .bool true
  | 28 => v = .bool true
  | _ => True

theorem nmtVals_keep {t s u : T} {lc ld l2 : List Pr} {F L zl : List ByteArray} {ta ca fa sa da la ua pa za : Option Addr} {tc cc fc sc dc lk uc pc zc : Nat} (i : Nat) (v : Value) (V Y : World) (h : nmtVals t s u lc ld l2 F L zl ta ca fa sa da la ua pa za tc cc fc sc dc lk uc pc zc i v V) (hb : Below V.heap.size V Y) : nmtVals t s u lc ld l2 F L zl ta ca fa sa da la ua pa za tc cc fc sc dc lk uc pc zc i v Y := by
  unfold nmtVals at *
  split at h <;> first
    | exact h
    | (obtain ⟨ya, yc, yp, yq, yt, yu, e, h⟩ := h; exact ⟨ya, yc, yp, yq, yt, yu, e, h.keepO (KeepO.of_below hb)⟩)
    | (obtain ⟨ya, yc, e, h⟩ := h; exact ⟨ya, yc, e, h⟩)

theorem nmt_size : nmtOps.size = 29 := by kernel_rfl
theorem nmt_dst_1 : (nmtOps[1]?).bind (·.dst) = some 122 := by kernel_rfl
theorem nmt_dst_4 : (nmtOps[4]?).bind (·.dst) = some 125 := by kernel_rfl
theorem nmt_dst_10 : (nmtOps[10]?).bind (·.dst) = some 131 := by kernel_rfl
theorem nmt_dst_16 : (nmtOps[16]?).bind (·.dst) = some 137 := by kernel_rfl
theorem nmt_dst_22 : (nmtOps[22]?).bind (·.dst) = some 143 := by kernel_rfl
set_option linter.unusedSimpArgs false in
set_option maxRecDepth 100000 in
set_option maxHeartbeats 8000000 in
theorem nmt_region {w : World} {b9 b15 b16 : Nat} {t s u : T} {lc ld l2 : List Pr} {F L zl : List ByteArray} {ta ca fa sa da la ua pa za : Option Addr} {tc cc fc sc dc lk uc pc zc : Nat} {b : Nat → Value} {d : List Deferred}
    (h5 : b 5 = .bool true) (h9 : b 9 = .pointer (some ⟨b9, 0, none⟩)) (h15 : b 15 = .pointer (some ⟨b15, 0, none⟩)) (h16 : b 16 = .pointer (some ⟨b16, 0, none⟩)) (h17 : b 17 = .bool true)
    (HC7 : ∀ V, NmZ w b9 b15 b16 t s u lc ld l2 F L zl ta ca fa sa da la ua pa za tc cc fc sc dc lk uc pc zc V → Calls Tryz.prog 23 #[.agg #[.slice fa F.length fc, .slice ca lc.length cc, .int .i64 t.kind, .string t.name, .slice ta t.kids.length tc], .agg #[.slice la L.length lk, .slice da ld.length dc, .int .i64 s.kind, .string s.name, .slice sa s.kids.length sc]] V fun e Y => e = .returned (.bool true) ∧ Below V.heap.size V Y)
    (HC12 : ∀ V, NmZ w b9 b15 b16 t s u lc ld l2 F L zl ta ca fa sa da la ua pa za tc cc fc sc dc lk uc pc zc V → Calls Tryz.prog 12 #[.agg #[.slice za zl.length zc, .slice pa l2.length pc, .int .i64 u.kind, .string u.name, .slice ua u.kids.length uc]] V fun e Y => (∃ ya yc yp yq yt yu, e = .returned (.agg #[.slice ya zl.length yc, .slice yp l2.length yq, .int .i64 u.kind, .string u.name, .slice yt u.kids.length yu]) ∧ SmD u l2 zl yt yp ya yu yq yc Y) ∧ Below V.heap.size V Y)
    (HC14 : ∀ V, NmZ w b9 b15 b16 t s u lc ld l2 F L zl ta ca fa sa da la ua pa za tc cc fc sc dc lk uc pc zc V → ∀ ya12, ∀ yc12, ∀ yp12, ∀ yq12, ∀ yt12, ∀ yu12, SmD u l2 zl yt12 yp12 ya12 yu12 yq12 yc12 V → Calls Tryz.prog 10 #[.agg #[.slice ya12 zl.length yc12, .slice yp12 l2.length yq12, .int .i64 u.kind, .string u.name, .slice yt12 u.kids.length yu12], .agg #[.slice za zl.length zc, .slice pa l2.length pc, .int .i64 u.kind, .string u.name, .slice ua u.kids.length uc]] V fun e Y => e = .returned (.bool true) ∧ Below V.heap.size V Y)
    (HC18 : ∀ V, NmZ w b9 b15 b16 t s u lc ld l2 F L zl ta ca fa sa da la ua pa za tc cc fc sc dc lk uc pc zc V → Calls Tryz.prog 14 #[.agg #[.slice fa F.length fc, .slice ca lc.length cc, .int .i64 t.kind, .string t.name, .slice ta t.kids.length tc]] V fun e Y => (∃ ya yc, e = .returned (.slice ya 0 yc) ∧ True) ∧ Below V.heap.size V Y)
    (HC24 : ∀ V, NmZ w b9 b15 b16 t s u lc ld l2 F L zl ta ca fa sa da la ua pa za tc cc fc sc dc lk uc pc zc V → Calls Tryz.prog 14 #[.agg #[.slice za zl.length zc, .slice pa l2.length pc, .int .i64 u.kind, .string u.name, .slice ua u.kids.length uc]] V fun e Y => (∃ ya yc, e = .returned (.slice ya 0 yc) ∧ True) ∧ Below V.heap.size V Y)
    {Q : Exit → Act → World → Prop} {ops : Array Oper} (hops : ops = nmtOps) (x0 : Nat → Value) (X : World) (hS : NmZ w b9 b15 b16 t s u lc ld l2 F L zl ta ca fa sa da la ua pa za tc cc fc sc dc lk uc pc zc X.drew)
    (hfin : ∀ x V, NmZ w b9 b15 b16 t s u lc ld l2 F L zl ta ca fa sa da la ua pa za tc cc fc sc dc lk uc pc zc V → x 28 = .bool true → Q .normal (nmtFr b d x) V) : (Code.region 33 ops true).wp Tryz.prog Q (nmtFr b d x0) X := by
  have HC := Lib.hid (And.intro HC7 (And.intro HC12 (And.intro HC14 (And.intro HC18 HC24))))
  clear HC7 HC12 HC14 HC18 HC24
  refine region_inv (nmtFr b d) (fun V => NmZ w b9 b15 b16 t s u lc ld l2 F L zl ta ca fa sa da la ua pa za tc cc fc sc dc lk uc pc zc V) (fun V Y => Below V.heap.size V Y) (nmtVals t s u lc ld l2 F L zl ta ca fa sa da la ua pa za tc cc fc sc dc lk uc pc zc) x0 (by kernel_rfl) rfl hS (fun V Y h hb => h.below hb) (fun i v V Y _ h hb => nmtVals_keep i v V Y h hb) ?_ (fun x V hV h => hfin x V hV (h 28 (by rw [hops, nmt_size]; decide)))
  clear hfin hS
  obtain ⟨f, hf⟩ : ∃ qq, StepAt Tryz.prog (nmtFr b d) (fun V => NmZ w b9 b15 b16 t s u lc ld l2 F L zl ta ca fa sa da la ua pa za tc cc fc sc dc lk uc pc zc V) (fun V Y => Below V.heap.size V Y) (nmtVals t s u lc ld l2 F L zl ta ca fa sa da la ua pa za tc cc fc sc dc lk uc pc zc) ops Q = qq := ⟨_, rfl⟩
  rw [hf, hops]
  simp only [nmtOps, Tryz.f4, regionIn, Option.getD_some, Nat.reduceBEq, Bool.false_eq_true, if_false, if_true, beq_self_eq_true, Array.append_empty, Array.empty_append, List.append_eq, List.cons_append, List.nil_append, AllAt, Nat.reduceAdd, Nat.zero_add]
  -- 0: slot 121 := Op.move t5
  refine And.intro ?_ ?_
  · rw [← hf]; clear hf
    refine ⟨by decide +kernel, fun x v => by kernel_rfl, fun x V hV hdep K hK => ?_⟩
    clear hdep
    refine run_bare (by kernel_rfl) ?_
    unfold nmtFr
    go_simp
    refine kfit (hK _ _ (Below.refl _ V) rfl) ?_
    first | (simp only [nmtFr, Act.put, List.setIfInBounds_toArray, List.set_cons_zero, List.set_cons_succ, h5, h9, h15, h16, h17]; done) | (simp only [nmtFr, Act.put, List.setIfInBounds_toArray, List.set_cons_zero, List.set_cons_succ, h5, h9, h15, h16, h17]; rfl)
  -- 1: slot 122 := Op.move t121
  refine And.intro ?_ ?_
  · rw [← hf]; clear hf
    refine ⟨by decide +kernel, fun x v => by kernel_rfl, fun x V hV hdep K hK => ?_⟩
    have e0 : x 0 = .bool true := depOf hdep 0 (by decide +kernel)
    clear hdep
    refine run_bare (by kernel_rfl) ?_
    unfold nmtFr
    go_simp
    refine kfit (hK _ _ (Below.refl _ V) rfl) ?_
    first | (simp only [nmtFr, Act.put, List.setIfInBounds_toArray, List.set_cons_zero, List.set_cons_succ, h5, h9, h15, h16, h17, e0]; done) | (simp only [nmtFr, Act.put, List.setIfInBounds_toArray, List.set_cons_zero, List.set_cons_succ, h5, h9, h15, h16, h17, e0]; rfl)
  -- 2: slot 123 := Op.move t17
  refine And.intro ?_ ?_
  · rw [← hf]; clear hf
    refine ⟨by decide +kernel, fun x v => by kernel_rfl, fun x V hV hdep K hK => ?_⟩
    have e1 : x 1 = .bool true := depOf hdep 1 (by decide +kernel)
    clear hdep
    refine run_guard 1 122 (x 1) (by kernel_rfl) (by rw [hops]; exact nmt_dst_1) (by kernel_rfl) e1 ?_; clear hops
    unfold nmtFr
    go_simp
    refine kfit (hK _ _ (Below.refl _ V) rfl) ?_
    first | (simp only [nmtFr, Act.put, List.setIfInBounds_toArray, List.set_cons_zero, List.set_cons_succ, h5, h9, h15, h16, h17, e1]; done) | (simp only [nmtFr, Act.put, List.setIfInBounds_toArray, List.set_cons_zero, List.set_cons_succ, h5, h9, h15, h16, h17, e1]; rfl)
  -- 3: slot 124 := Op.unOp UnOp.not 4 t123
  refine And.intro ?_ ?_
  · rw [← hf]; clear hf
    refine ⟨by decide +kernel, fun x v => by kernel_rfl, fun x V hV hdep K hK => ?_⟩
    have e1 : x 1 = .bool true := depOf hdep 1 (by decide +kernel)
    have e2 : x 2 = .bool true := depOf hdep 2 (by decide +kernel)
    clear hdep
    refine run_guard 1 122 (x 1) (by kernel_rfl) (by rw [hops]; exact nmt_dst_1) (by kernel_rfl) e1 ?_; clear hops
    unfold nmtFr
    go_simp
    refine kfit (hK _ _ (Below.refl _ V) rfl) ?_
    first | (simp only [nmtFr, Act.put, List.setIfInBounds_toArray, List.set_cons_zero, List.set_cons_succ, h5, h9, h15, h16, h17, e1, e2]; done) | (simp only [nmtFr, Act.put, List.setIfInBounds_toArray, List.set_cons_zero, List.set_cons_succ, h5, h9, h15, h16, h17, e1, e2]; rfl)
  -- 4: slot 125 := Op.move t124
  refine And.intro ?_ ?_
  · rw [← hf]; clear hf
    refine ⟨by decide +kernel, fun x v => by kernel_rfl, fun x V hV hdep K hK => ?_⟩
    have e1 : x 1 = .bool true := depOf hdep 1 (by decide +kernel)
    have e3 : x 3 = .bool false := depOf hdep 3 (by decide +kernel)
    clear hdep
    refine run_guard 1 122 (x 1) (by kernel_rfl) (by rw [hops]; exact nmt_dst_1) (by kernel_rfl) e1 ?_; clear hops
    unfold nmtFr
    go_simp
    refine kfit (hK _ _ (Below.refl _ V) rfl) ?_
    first | (simp only [nmtFr, Act.put, List.setIfInBounds_toArray, List.set_cons_zero, List.set_cons_succ, h5, h9, h15, h16, h17, e1, e3]; done) | (simp only [nmtFr, Act.put, List.setIfInBounds_toArray, List.set_cons_zero, List.set_cons_succ, h5, h9, h15, h16, h17, e1, e3]; rfl)
  -- 5: slot 126 := Op.load 33 t9
  refine And.intro ?_ ?_
  · rw [← hf]; clear hf
    refine ⟨by decide +kernel, fun x v => by kernel_rfl, fun x V hV hdep K hK => ?_⟩
    have e4 : x 4 = .bool false := depOf hdep 4 (by decide +kernel)
    clear hdep
    refine run_guardF 4 125 (x 4) (by kernel_rfl) (by rw [hops]; exact nmt_dst_4) (by kernel_rfl) e4 ?_; clear hops
    unfold nmtFr
    obtain ⟨y0, y1, y2, y3, y4⟩ := cells5 hV.1.1; obtain ⟨u0, u1, u2, u3, u4⟩ := cells5 hV.2.1.1; obtain ⟨v0, v1, v2, v3, v4⟩ := cells5 hV.2.2.1.1
    go_simp
    refine kfit (hK _ _ (Below.refl _ V) rfl) ?_
    first | (simp only [nmtFr, Act.put, List.setIfInBounds_toArray, List.set_cons_zero, List.set_cons_succ, h5, h9, h15, h16, h17, e4]; done) | (simp only [nmtFr, Act.put, List.setIfInBounds_toArray, List.set_cons_zero, List.set_cons_succ, h5, h9, h15, h16, h17, e4]; rfl)
  -- 6: slot 127 := Op.load 33 t15
  refine And.intro ?_ ?_
  · rw [← hf]; clear hf
    refine ⟨by decide +kernel, fun x v => by kernel_rfl, fun x V hV hdep K hK => ?_⟩
    have e4 : x 4 = .bool false := depOf hdep 4 (by decide +kernel)
    clear hdep
    refine run_guardF 4 125 (x 4) (by kernel_rfl) (by rw [hops]; exact nmt_dst_4) (by kernel_rfl) e4 ?_; clear hops
    unfold nmtFr
    obtain ⟨y0, y1, y2, y3, y4⟩ := cells5 hV.1.1; obtain ⟨u0, u1, u2, u3, u4⟩ := cells5 hV.2.1.1; obtain ⟨v0, v1, v2, v3, v4⟩ := cells5 hV.2.2.1.1
    go_simp
    refine kfit (hK _ _ (Below.refl _ V) rfl) ?_
    first | (simp only [nmtFr, Act.put, List.setIfInBounds_toArray, List.set_cons_zero, List.set_cons_succ, h5, h9, h15, h16, h17, e4]; done) | (simp only [nmtFr, Act.put, List.setIfInBounds_toArray, List.set_cons_zero, List.set_cons_succ, h5, h9, h15, h16, h17, e4]; rfl)
  -- 7: slot 128 := Op.call { value (Operand.func 23), args := #[t126, t127], ar
  refine And.intro ?_ ?_
  · rw [← hf]; clear hf
    refine ⟨by decide +kernel, fun x v => by kernel_rfl, fun x V hV hdep K hK => ?_⟩
    have e4 : x 4 = .bool false := depOf hdep 4 (by decide +kernel)
    have e5 : x 5 = .agg #[.slice fa F.length fc, .slice ca lc.length cc, .int .i64 t.kind, .string t.name, .slice ta t.kids.length tc] := depOf hdep 5 (by decide +kernel)
    have e6 : x 6 = .agg #[.slice la L.length lk, .slice da ld.length dc, .int .i64 s.kind, .string s.name, .slice sa s.kids.length sc] := depOf hdep 6 (by decide +kernel)
    clear hdep
    refine run_guardF 4 125 (x 4) (by kernel_rfl) (by rw [hops]; exact nmt_dst_4) (by kernel_rfl) e4 ?_; clear hops
    unfold nmtFr
    obtain ⟨HC7, HC12, HC14, HC18, HC24⟩ := HC.out
    clear HC12 HC14 HC18 HC24
    have H := HC7 V hV
    replace H := Lib.hid H; clear HC7
    go_simp
    go_at_call 23
    refine H.out.mono ?_
    rintro e Y ⟨rfl, hb⟩; refine kfit (hK _ _ hb rfl) ?_
    first | (simp only [nmtFr, Act.put, List.setIfInBounds_toArray, List.set_cons_zero, List.set_cons_succ, h5, h9, h15, h16, h17, e4, e5, e6]; done) | (simp only [nmtFr, Act.put, List.setIfInBounds_toArray, List.set_cons_zero, List.set_cons_succ, h5, h9, h15, h16, h17, e4, e5, e6]; rfl)
  -- 8: slot 129 := Op.pick t125 (const (Value.bool true)) t128
  refine And.intro ?_ ?_
  · rw [← hf]; clear hf
    refine ⟨by decide +kernel, fun x v => by kernel_rfl, fun x V hV hdep K hK => ?_⟩
    have e1 : x 1 = .bool true := depOf hdep 1 (by decide +kernel)
    have e4 : x 4 = .bool false := depOf hdep 4 (by decide +kernel)
    have e7 : x 7 = .bool true := depOf hdep 7 (by decide +kernel)
    clear hdep
    refine run_guard 1 122 (x 1) (by kernel_rfl) (by rw [hops]; exact nmt_dst_1) (by kernel_rfl) e1 ?_; clear hops
    unfold nmtFr
    go_simp
    refine kfit (hK _ _ (Below.refl _ V) rfl) ?_
    first | (simp only [nmtFr, Act.put, List.setIfInBounds_toArray, List.set_cons_zero, List.set_cons_succ, h5, h9, h15, h16, h17, e1, e4, e7]; done) | (simp only [nmtFr, Act.put, List.setIfInBounds_toArray, List.set_cons_zero, List.set_cons_succ, h5, h9, h15, h16, h17, e1, e4, e7]; rfl)
  -- 9: slot 130 := Op.pick t122 t129 (const (Value.bool false))
  refine And.intro ?_ ?_
  · rw [← hf]; clear hf
    refine ⟨by decide +kernel, fun x v => by kernel_rfl, fun x V hV hdep K hK => ?_⟩
    have e1 : x 1 = .bool true := depOf hdep 1 (by decide +kernel)
    have e8 : x 8 = .bool true := depOf hdep 8 (by decide +kernel)
    clear hdep
    refine run_bare (by kernel_rfl) ?_
    unfold nmtFr
    go_simp
    refine kfit (hK _ _ (Below.refl _ V) rfl) ?_
    first | (simp only [nmtFr, Act.put, List.setIfInBounds_toArray, List.set_cons_zero, List.set_cons_succ, h5, h9, h15, h16, h17, e1, e8]; done) | (simp only [nmtFr, Act.put, List.setIfInBounds_toArray, List.set_cons_zero, List.set_cons_succ, h5, h9, h15, h16, h17, e1, e8]; rfl)
  -- 10: slot 131 := Op.move t130
  refine And.intro ?_ ?_
  · rw [← hf]; clear hf
    refine ⟨by decide +kernel, fun x v => by kernel_rfl, fun x V hV hdep K hK => ?_⟩
    have e9 : x 9 = .bool true := depOf hdep 9 (by decide +kernel)
    clear hdep
    refine run_bare (by kernel_rfl) ?_
    unfold nmtFr
    go_simp
    refine kfit (hK _ _ (Below.refl _ V) rfl) ?_
    first | (simp only [nmtFr, Act.put, List.setIfInBounds_toArray, List.set_cons_zero, List.set_cons_succ, h5, h9, h15, h16, h17, e9]; done) | (simp only [nmtFr, Act.put, List.setIfInBounds_toArray, List.set_cons_zero, List.set_cons_succ, h5, h9, h15, h16, h17, e9]; rfl)
  -- 11: slot 132 := Op.load 33 t16
  refine And.intro ?_ ?_
  · rw [← hf]; clear hf
    refine ⟨by decide +kernel, fun x v => by kernel_rfl, fun x V hV hdep K hK => ?_⟩
    have e10 : x 10 = .bool true := depOf hdep 10 (by decide +kernel)
    clear hdep
    refine run_guard 10 131 (x 10) (by kernel_rfl) (by rw [hops]; exact nmt_dst_10) (by kernel_rfl) e10 ?_; clear hops
    unfold nmtFr
    obtain ⟨y0, y1, y2, y3, y4⟩ := cells5 hV.1.1; obtain ⟨u0, u1, u2, u3, u4⟩ := cells5 hV.2.1.1; obtain ⟨v0, v1, v2, v3, v4⟩ := cells5 hV.2.2.1.1
    go_simp
    refine kfit (hK _ _ (Below.refl _ V) rfl) ?_
    first | (simp only [nmtFr, Act.put, List.setIfInBounds_toArray, List.set_cons_zero, List.set_cons_succ, h5, h9, h15, h16, h17, e10]; done) | (simp only [nmtFr, Act.put, List.setIfInBounds_toArray, List.set_cons_zero, List.set_cons_succ, h5, h9, h15, h16, h17, e10]; rfl)
  -- 12: slot 133 := Op.call { value (Operand.func 12), args := #[t132], argTypes
  refine And.intro ?_ ?_
  · rw [← hf]; clear hf
    refine ⟨by decide +kernel, fun x v => by kernel_rfl, fun x V hV hdep K hK => ?_⟩
    have e10 : x 10 = .bool true := depOf hdep 10 (by decide +kernel)
    have e11 : x 11 = .agg #[.slice za zl.length zc, .slice pa l2.length pc, .int .i64 u.kind, .string u.name, .slice ua u.kids.length uc] := depOf hdep 11 (by decide +kernel)
    clear hdep
    refine run_guard 10 131 (x 10) (by kernel_rfl) (by rw [hops]; exact nmt_dst_10) (by kernel_rfl) e10 ?_; clear hops
    unfold nmtFr
    obtain ⟨HC7, HC12, HC14, HC18, HC24⟩ := HC.out
    clear HC7 HC14 HC18 HC24
    have H := HC12 V hV
    replace H := Lib.hid H; clear HC12
    go_simp
    go_at_call 12
    refine H.out.mono ?_
    rintro e Y ⟨⟨ya, yc, yp, yq, yt, yu, rfl, hq⟩, hb⟩; refine kfit (hK _ _ hb ⟨ya, yc, yp, yq, yt, yu, rfl, hq⟩) ?_
    first | (simp only [nmtFr, Act.put, List.setIfInBounds_toArray, List.set_cons_zero, List.set_cons_succ, h5, h9, h15, h16, h17, e10, e11]; done) | (simp only [nmtFr, Act.put, List.setIfInBounds_toArray, List.set_cons_zero, List.set_cons_succ, h5, h9, h15, h16, h17, e10, e11]; rfl)
  -- 13: slot 134 := Op.load 33 t16
  refine And.intro ?_ ?_
  · rw [← hf]; clear hf
    refine ⟨by decide +kernel, fun x v => by kernel_rfl, fun x V hV hdep K hK => ?_⟩
    have e10 : x 10 = .bool true := depOf hdep 10 (by decide +kernel)
    clear hdep
    refine run_guard 10 131 (x 10) (by kernel_rfl) (by rw [hops]; exact nmt_dst_10) (by kernel_rfl) e10 ?_; clear hops
    unfold nmtFr
    obtain ⟨y0, y1, y2, y3, y4⟩ := cells5 hV.1.1; obtain ⟨u0, u1, u2, u3, u4⟩ := cells5 hV.2.1.1; obtain ⟨v0, v1, v2, v3, v4⟩ := cells5 hV.2.2.1.1
    go_simp
    refine kfit (hK _ _ (Below.refl _ V) rfl) ?_
    first | (simp only [nmtFr, Act.put, List.setIfInBounds_toArray, List.set_cons_zero, List.set_cons_succ, h5, h9, h15, h16, h17, e10]; done) | (simp only [nmtFr, Act.put, List.setIfInBounds_toArray, List.set_cons_zero, List.set_cons_succ, h5, h9, h15, h16, h17, e10]; rfl)
  -- 14: slot 135 := Op.call { value (Operand.func 10), args := #[t133, t134], ar
  refine And.intro ?_ ?_
  · rw [← hf]; clear hf
    refine ⟨by decide +kernel, fun x v => by kernel_rfl, fun x V hV hdep K hK => ?_⟩
    have e10 : x 10 = .bool true := depOf hdep 10 (by decide +kernel)
    obtain ⟨ya12, yc12, yp12, yq12, yt12, yu12, e12, d12⟩ : ∃ ya12 yc12 yp12 yq12 yt12 yu12, x 12 = .agg #[.slice ya12 zl.length yc12, .slice yp12 l2.length yq12, .int .i64 u.kind, .string u.name, .slice yt12 u.kids.length yu12] ∧ SmD u l2 zl yt12 yp12 ya12 yu12 yq12 yc12 V := depOf hdep 12 (by decide +kernel)
    have e13 : x 13 = .agg #[.slice za zl.length zc, .slice pa l2.length pc, .int .i64 u.kind, .string u.name, .slice ua u.kids.length uc] := depOf hdep 13 (by decide +kernel)
    clear hdep
    refine run_guard 10 131 (x 10) (by kernel_rfl) (by rw [hops]; exact nmt_dst_10) (by kernel_rfl) e10 ?_; clear hops
    unfold nmtFr
    obtain ⟨HC7, HC12, HC14, HC18, HC24⟩ := HC.out
    clear HC7 HC12 HC18 HC24
    have H := HC14 V hV _ _ _ _ _ _ d12
    replace H := Lib.hid H; clear HC14
    go_simp
    go_at_call 10
    refine H.out.mono ?_
    rintro e Y ⟨rfl, hb⟩; refine kfit (hK _ _ hb rfl) ?_
    first | (simp only [nmtFr, Act.put, List.setIfInBounds_toArray, List.set_cons_zero, List.set_cons_succ, h5, h9, h15, h16, h17, e10, e12, e13]; done) | (simp only [nmtFr, Act.put, List.setIfInBounds_toArray, List.set_cons_zero, List.set_cons_succ, h5, h9, h15, h16, h17, e10, e12, e13]; rfl)
  -- 15: slot 136 := Op.pick t131 t135 (const (Value.bool false))
  refine And.intro ?_ ?_
  · rw [← hf]; clear hf
    refine ⟨by decide +kernel, fun x v => by kernel_rfl, fun x V hV hdep K hK => ?_⟩
    have e10 : x 10 = .bool true := depOf hdep 10 (by decide +kernel)
    have e14 : x 14 = .bool true := depOf hdep 14 (by decide +kernel)
    clear hdep
    refine run_bare (by kernel_rfl) ?_
    unfold nmtFr
    go_simp
    refine kfit (hK _ _ (Below.refl _ V) rfl) ?_
    first | (simp only [nmtFr, Act.put, List.setIfInBounds_toArray, List.set_cons_zero, List.set_cons_succ, h5, h9, h15, h16, h17, e10, e14]; done) | (simp only [nmtFr, Act.put, List.setIfInBounds_toArray, List.set_cons_zero, List.set_cons_succ, h5, h9, h15, h16, h17, e10, e14]; rfl)
  -- 16: slot 137 := Op.move t136
  refine And.intro ?_ ?_
  · rw [← hf]; clear hf
    refine ⟨by decide +kernel, fun x v => by kernel_rfl, fun x V hV hdep K hK => ?_⟩
    have e15 : x 15 = .bool true := depOf hdep 15 (by decide +kernel)
    clear hdep
    refine run_bare (by kernel_rfl) ?_
    unfold nmtFr
    go_simp
    refine kfit (hK _ _ (Below.refl _ V) rfl) ?_
    first | (simp only [nmtFr, Act.put, List.setIfInBounds_toArray, List.set_cons_zero, List.set_cons_succ, h5, h9, h15, h16, h17, e15]; done) | (simp only [nmtFr, Act.put, List.setIfInBounds_toArray, List.set_cons_zero, List.set_cons_succ, h5, h9, h15, h16, h17, e15]; rfl)
  -- 17: slot 138 := Op.load 33 t9
  refine And.intro ?_ ?_
  · rw [← hf]; clear hf
    refine ⟨by decide +kernel, fun x v => by kernel_rfl, fun x V hV hdep K hK => ?_⟩
    have e16 : x 16 = .bool true := depOf hdep 16 (by decide +kernel)
    clear hdep
    refine run_guard 16 137 (x 16) (by kernel_rfl) (by rw [hops]; exact nmt_dst_16) (by kernel_rfl) e16 ?_; clear hops
    unfold nmtFr
    obtain ⟨y0, y1, y2, y3, y4⟩ := cells5 hV.1.1; obtain ⟨u0, u1, u2, u3, u4⟩ := cells5 hV.2.1.1; obtain ⟨v0, v1, v2, v3, v4⟩ := cells5 hV.2.2.1.1
    go_simp
    refine kfit (hK _ _ (Below.refl _ V) rfl) ?_
    first | (simp only [nmtFr, Act.put, List.setIfInBounds_toArray, List.set_cons_zero, List.set_cons_succ, h5, h9, h15, h16, h17, e16]; done) | (simp only [nmtFr, Act.put, List.setIfInBounds_toArray, List.set_cons_zero, List.set_cons_succ, h5, h9, h15, h16, h17, e16]; rfl)
  -- 18: slot 139 := Op.call { value (Operand.func 14), args := #[t138], argTypes
  refine And.intro ?_ ?_
  · rw [← hf]; clear hf
    refine ⟨by decide +kernel, fun x v => by kernel_rfl, fun x V hV hdep K hK => ?_⟩
    have e16 : x 16 = .bool true := depOf hdep 16 (by decide +kernel)
    have e17 : x 17 = .agg #[.slice fa F.length fc, .slice ca lc.length cc, .int .i64 t.kind, .string t.name, .slice ta t.kids.length tc] := depOf hdep 17 (by decide +kernel)
    clear hdep
    refine run_guard 16 137 (x 16) (by kernel_rfl) (by rw [hops]; exact nmt_dst_16) (by kernel_rfl) e16 ?_; clear hops
    unfold nmtFr
    obtain ⟨HC7, HC12, HC14, HC18, HC24⟩ := HC.out
    clear HC7 HC12 HC14 HC24
    have H := HC18 V hV
    replace H := Lib.hid H; clear HC18
    go_simp
    go_at_call 14
    refine H.out.mono ?_
    rintro e Y ⟨⟨ya, yc, rfl, hq⟩, hb⟩; refine kfit (hK _ _ hb ⟨ya, yc, rfl, hq⟩) ?_
    first | (simp only [nmtFr, Act.put, List.setIfInBounds_toArray, List.set_cons_zero, List.set_cons_succ, h5, h9, h15, h16, h17, e16, e17]; done) | (simp only [nmtFr, Act.put, List.setIfInBounds_toArray, List.set_cons_zero, List.set_cons_succ, h5, h9, h15, h16, h17, e16, e17]; rfl)
  -- 19: slot 140 := Op.call { builtin len, args := #[t139], argTypes := #[23] }
  refine And.intro ?_ ?_
  · rw [← hf]; clear hf
    refine ⟨by decide +kernel, fun x v => by kernel_rfl, fun x V hV hdep K hK => ?_⟩
    have e16 : x 16 = .bool true := depOf hdep 16 (by decide +kernel)
    obtain ⟨ya18, yc18, e18, d18⟩ : ∃ ya18 yc18, x 18 = .slice ya18 0 yc18 ∧ True := depOf hdep 18 (by decide +kernel)
    clear hdep
    refine run_guard 16 137 (x 16) (by kernel_rfl) (by rw [hops]; exact nmt_dst_16) (by kernel_rfl) e16 ?_; clear hops
    unfold nmtFr
    go_simp
    refine kfit (hK _ _ (Below.refl _ V) rfl) ?_
    first | (simp only [nmtFr, Act.put, List.setIfInBounds_toArray, List.set_cons_zero, List.set_cons_succ, h5, h9, h15, h16, h17, e16, e18]; done) | (simp only [nmtFr, Act.put, List.setIfInBounds_toArray, List.set_cons_zero, List.set_cons_succ, h5, h9, h15, h16, h17, e16, e18]; rfl)
  -- 20: slot 141 := Op.binOp BinOp.eql 3 t140 (const (0:i64)) 3
  refine And.intro ?_ ?_
  · rw [← hf]; clear hf
    refine ⟨by decide +kernel, fun x v => by kernel_rfl, fun x V hV hdep K hK => ?_⟩
    have e16 : x 16 = .bool true := depOf hdep 16 (by decide +kernel)
    have e19 : x 19 = .int .i64 0 := depOf hdep 19 (by decide +kernel)
    clear hdep
    refine run_guard 16 137 (x 16) (by kernel_rfl) (by rw [hops]; exact nmt_dst_16) (by kernel_rfl) e16 ?_; clear hops
    unfold nmtFr
    go_simp
    refine kfit (hK _ _ (Below.refl _ V) rfl) ?_
    first | (simp only [nmtFr, Act.put, List.setIfInBounds_toArray, List.set_cons_zero, List.set_cons_succ, h5, h9, h15, h16, h17, e16, e19]; done) | (simp only [nmtFr, Act.put, List.setIfInBounds_toArray, List.set_cons_zero, List.set_cons_succ, h5, h9, h15, h16, h17, e16, e19]; rfl)
  -- 21: slot 142 := Op.pick t137 t141 (const (Value.bool false))
  refine And.intro ?_ ?_
  · rw [← hf]; clear hf
    refine ⟨by decide +kernel, fun x v => by kernel_rfl, fun x V hV hdep K hK => ?_⟩
    have e16 : x 16 = .bool true := depOf hdep 16 (by decide +kernel)
    have e20 : x 20 = .bool true := depOf hdep 20 (by decide +kernel)
    clear hdep
    refine run_bare (by kernel_rfl) ?_
    unfold nmtFr
    go_simp
    refine kfit (hK _ _ (Below.refl _ V) rfl) ?_
    first | (simp only [nmtFr, Act.put, List.setIfInBounds_toArray, List.set_cons_zero, List.set_cons_succ, h5, h9, h15, h16, h17, e16, e20]; done) | (simp only [nmtFr, Act.put, List.setIfInBounds_toArray, List.set_cons_zero, List.set_cons_succ, h5, h9, h15, h16, h17, e16, e20]; rfl)
  -- 22: slot 143 := Op.move t142
  refine And.intro ?_ ?_
  · rw [← hf]; clear hf
    refine ⟨by decide +kernel, fun x v => by kernel_rfl, fun x V hV hdep K hK => ?_⟩
    have e21 : x 21 = .bool true := depOf hdep 21 (by decide +kernel)
    clear hdep
    refine run_bare (by kernel_rfl) ?_
    unfold nmtFr
    go_simp
    refine kfit (hK _ _ (Below.refl _ V) rfl) ?_
    first | (simp only [nmtFr, Act.put, List.setIfInBounds_toArray, List.set_cons_zero, List.set_cons_succ, h5, h9, h15, h16, h17, e21]; done) | (simp only [nmtFr, Act.put, List.setIfInBounds_toArray, List.set_cons_zero, List.set_cons_succ, h5, h9, h15, h16, h17, e21]; rfl)
  -- 23: slot 144 := Op.load 33 t16
  refine And.intro ?_ ?_
  · rw [← hf]; clear hf
    refine ⟨by decide +kernel, fun x v => by kernel_rfl, fun x V hV hdep K hK => ?_⟩
    have e22 : x 22 = .bool true := depOf hdep 22 (by decide +kernel)
    clear hdep
    refine run_guard 22 143 (x 22) (by kernel_rfl) (by rw [hops]; exact nmt_dst_22) (by kernel_rfl) e22 ?_; clear hops
    unfold nmtFr
    obtain ⟨y0, y1, y2, y3, y4⟩ := cells5 hV.1.1; obtain ⟨u0, u1, u2, u3, u4⟩ := cells5 hV.2.1.1; obtain ⟨v0, v1, v2, v3, v4⟩ := cells5 hV.2.2.1.1
    go_simp
    refine kfit (hK _ _ (Below.refl _ V) rfl) ?_
    first | (simp only [nmtFr, Act.put, List.setIfInBounds_toArray, List.set_cons_zero, List.set_cons_succ, h5, h9, h15, h16, h17, e22]; done) | (simp only [nmtFr, Act.put, List.setIfInBounds_toArray, List.set_cons_zero, List.set_cons_succ, h5, h9, h15, h16, h17, e22]; rfl)
  -- 24: slot 145 := Op.call { value (Operand.func 14), args := #[t144], argTypes
  refine And.intro ?_ ?_
  · rw [← hf]; clear hf
    refine ⟨by decide +kernel, fun x v => by kernel_rfl, fun x V hV hdep K hK => ?_⟩
    have e22 : x 22 = .bool true := depOf hdep 22 (by decide +kernel)
    have e23 : x 23 = .agg #[.slice za zl.length zc, .slice pa l2.length pc, .int .i64 u.kind, .string u.name, .slice ua u.kids.length uc] := depOf hdep 23 (by decide +kernel)
    clear hdep
    refine run_guard 22 143 (x 22) (by kernel_rfl) (by rw [hops]; exact nmt_dst_22) (by kernel_rfl) e22 ?_; clear hops
    unfold nmtFr
    obtain ⟨HC7, HC12, HC14, HC18, HC24⟩ := HC.out
    clear HC7 HC12 HC14 HC18
    have H := HC24 V hV
    replace H := Lib.hid H; clear HC24
    go_simp
    go_at_call 14
    refine H.out.mono ?_
    rintro e Y ⟨⟨ya, yc, rfl, hq⟩, hb⟩; refine kfit (hK _ _ hb ⟨ya, yc, rfl, hq⟩) ?_
    first | (simp only [nmtFr, Act.put, List.setIfInBounds_toArray, List.set_cons_zero, List.set_cons_succ, h5, h9, h15, h16, h17, e22, e23]; done) | (simp only [nmtFr, Act.put, List.setIfInBounds_toArray, List.set_cons_zero, List.set_cons_succ, h5, h9, h15, h16, h17, e22, e23]; rfl)
  -- 25: slot 146 := Op.call { builtin len, args := #[t145], argTypes := #[23] }
  refine And.intro ?_ ?_
  · rw [← hf]; clear hf
    refine ⟨by decide +kernel, fun x v => by kernel_rfl, fun x V hV hdep K hK => ?_⟩
    have e22 : x 22 = .bool true := depOf hdep 22 (by decide +kernel)
    obtain ⟨ya24, yc24, e24, d24⟩ : ∃ ya24 yc24, x 24 = .slice ya24 0 yc24 ∧ True := depOf hdep 24 (by decide +kernel)
    clear hdep
    refine run_guard 22 143 (x 22) (by kernel_rfl) (by rw [hops]; exact nmt_dst_22) (by kernel_rfl) e22 ?_; clear hops
    unfold nmtFr
    go_simp
    refine kfit (hK _ _ (Below.refl _ V) rfl) ?_
    first | (simp only [nmtFr, Act.put, List.setIfInBounds_toArray, List.set_cons_zero, List.set_cons_succ, h5, h9, h15, h16, h17, e22, e24]; done) | (simp only [nmtFr, Act.put, List.setIfInBounds_toArray, List.set_cons_zero, List.set_cons_succ, h5, h9, h15, h16, h17, e22, e24]; rfl)
  -- 26: slot 147 := Op.binOp BinOp.eql 3 t146 (const (0:i64)) 3
  refine And.intro ?_ ?_
  · rw [← hf]; clear hf
    refine ⟨by decide +kernel, fun x v => by kernel_rfl, fun x V hV hdep K hK => ?_⟩
    have e22 : x 22 = .bool true := depOf hdep 22 (by decide +kernel)
    have e25 : x 25 = .int .i64 0 := depOf hdep 25 (by decide +kernel)
    clear hdep
    refine run_guard 22 143 (x 22) (by kernel_rfl) (by rw [hops]; exact nmt_dst_22) (by kernel_rfl) e22 ?_; clear hops
    unfold nmtFr
    go_simp
    refine kfit (hK _ _ (Below.refl _ V) rfl) ?_
    first | (simp only [nmtFr, Act.put, List.setIfInBounds_toArray, List.set_cons_zero, List.set_cons_succ, h5, h9, h15, h16, h17, e22, e25]; done) | (simp only [nmtFr, Act.put, List.setIfInBounds_toArray, List.set_cons_zero, List.set_cons_succ, h5, h9, h15, h16, h17, e22, e25]; rfl)
  -- 27: slot 148 := Op.pick t143 t147 (const (Value.bool false))
  refine And.intro ?_ ?_
  · rw [← hf]; clear hf
    refine ⟨by decide +kernel, fun x v => by kernel_rfl, fun x V hV hdep K hK => ?_⟩
    have e22 : x 22 = .bool true := depOf hdep 22 (by decide +kernel)
    have e26 : x 26 = .bool true := depOf hdep 26 (by decide +kernel)
    clear hdep
    refine run_bare (by kernel_rfl) ?_
    unfold nmtFr
    go_simp
    refine kfit (hK _ _ (Below.refl _ V) rfl) ?_
    first | (simp only [nmtFr, Act.put, List.setIfInBounds_toArray, List.set_cons_zero, List.set_cons_succ, h5, h9, h15, h16, h17, e22, e26]; done) | (simp only [nmtFr, Act.put, List.setIfInBounds_toArray, List.set_cons_zero, List.set_cons_succ, h5, h9, h15, h16, h17, e22, e26]; rfl)
  -- 28: slot 4 := Op.assign t148
  refine And.intro ?_ ?_
  · rw [← hf]; clear hf
    refine ⟨by decide +kernel, fun x v => by kernel_rfl, fun x V hV hdep K hK => ?_⟩
    have e27 : x 27 = .bool true := depOf hdep 27 (by decide +kernel)
    clear hdep
    refine run_bare (by kernel_rfl) ?_
    unfold nmtFr
    go_simp
    refine kfit (hK _ _ (Below.refl _ V) rfl) ?_
    first | (simp only [nmtFr, Act.put, List.setIfInBounds_toArray, List.set_cons_zero, List.set_cons_succ, h5, h9, h15, h16, h17, e27]; done) | (simp only [nmtFr, Act.put, List.setIfInBounds_toArray, List.set_cons_zero, List.set_cons_succ, h5, h9, h15, h16, h17, e27]; rfl)
  exact trivial
theorem nmt_here {w : World} {b9 b15 b16 : Nat} {t s u : T} {lc ld l2 : List Pr} {F L zl : List ByteArray} {ta ca fa sa da la ua pa za : Option Addr} {tc cc fc sc dc lk uc pc zc : Nat}
    (HC7 : ∀ V, NmZ w b9 b15 b16 t s u lc ld l2 F L zl ta ca fa sa da la ua pa za tc cc fc sc dc lk uc pc zc V → Calls Tryz.prog 23 #[.agg #[.slice fa F.length fc, .slice ca lc.length cc, .int .i64 t.kind, .string t.name, .slice ta t.kids.length tc], .agg #[.slice la L.length lk, .slice da ld.length dc, .int .i64 s.kind, .string s.name, .slice sa s.kids.length sc]] V fun e Y => e = .returned (.bool true) ∧ Below V.heap.size V Y)
    (HC12 : ∀ V, NmZ w b9 b15 b16 t s u lc ld l2 F L zl ta ca fa sa da la ua pa za tc cc fc sc dc lk uc pc zc V → Calls Tryz.prog 12 #[.agg #[.slice za zl.length zc, .slice pa l2.length pc, .int .i64 u.kind, .string u.name, .slice ua u.kids.length uc]] V fun e Y => (∃ ya yc yp yq yt yu, e = .returned (.agg #[.slice ya zl.length yc, .slice yp l2.length yq, .int .i64 u.kind, .string u.name, .slice yt u.kids.length yu]) ∧ SmD u l2 zl yt yp ya yu yq yc Y) ∧ Below V.heap.size V Y)
    (HC14 : ∀ V, NmZ w b9 b15 b16 t s u lc ld l2 F L zl ta ca fa sa da la ua pa za tc cc fc sc dc lk uc pc zc V → ∀ ya12, ∀ yc12, ∀ yp12, ∀ yq12, ∀ yt12, ∀ yu12, SmD u l2 zl yt12 yp12 ya12 yu12 yq12 yc12 V → Calls Tryz.prog 10 #[.agg #[.slice ya12 zl.length yc12, .slice yp12 l2.length yq12, .int .i64 u.kind, .string u.name, .slice yt12 u.kids.length yu12], .agg #[.slice za zl.length zc, .slice pa l2.length pc, .int .i64 u.kind, .string u.name, .slice ua u.kids.length uc]] V fun e Y => e = .returned (.bool true) ∧ Below V.heap.size V Y)
    (HC18 : ∀ V, NmZ w b9 b15 b16 t s u lc ld l2 F L zl ta ca fa sa da la ua pa za tc cc fc sc dc lk uc pc zc V → Calls Tryz.prog 14 #[.agg #[.slice fa F.length fc, .slice ca lc.length cc, .int .i64 t.kind, .string t.name, .slice ta t.kids.length tc]] V fun e Y => (∃ ya yc, e = .returned (.slice ya 0 yc) ∧ True) ∧ Below V.heap.size V Y)
    (HC24 : ∀ V, NmZ w b9 b15 b16 t s u lc ld l2 F L zl ta ca fa sa da la ua pa za tc cc fc sc dc lk uc pc zc V → Calls Tryz.prog 14 #[.agg #[.slice za zl.length zc, .slice pa l2.length pc, .int .i64 u.kind, .string u.name, .slice ua u.kids.length uc]] V fun e Y => (∃ ya yc, e = .returned (.slice ya 0 yc) ∧ True) ∧ Below V.heap.size V Y)
    {Q : Exit → Act → World → Prop} {ops : Array Oper} {a : Act} (X : World) (hops : ops = nmtOps)
    (h5 : a.tmps.getD 5 undef = .bool true) (h9 : a.tmps.getD 9 undef = .pointer (some ⟨b9, 0, none⟩)) (h15 : a.tmps.getD 15 undef = .pointer (some ⟨b15, 0, none⟩)) (h16 : a.tmps.getD 16 undef = .pointer (some ⟨b16, 0, none⟩)) (h17 : a.tmps.getD 17 undef = .bool true)
    (ha : a = nmtFr (fun j => a.tmps.getD j undef) a.defers (fun i => a.tmps.getD (if i = 28 then 4 else 121 + i) undef)) (hS : NmZ w b9 b15 b16 t s u lc ld l2 F L zl ta ca fa sa da la ua pa za tc cc fc sc dc lk uc pc zc X.drew)
    (hfin : ∀ x V, NmZ w b9 b15 b16 t s u lc ld l2 F L zl ta ca fa sa da la ua pa za tc cc fc sc dc lk uc pc zc V → x 28 = .bool true → Q .normal (nmtFr (fun j => a.tmps.getD j undef) a.defers x) V) : (Code.region 33 ops true).wp Tryz.prog Q a X :=
  cast (congrArg (fun z => (Code.region 33 ops true).wp Tryz.prog Q z X) ha.symm) (nmt_region (b := fun j => a.tmps.getD j undef) (d := a.defers) h5 h9 h15 h16 h17 HC7 HC12 HC14 HC18 HC24 hops _ X hS hfin)
end Go.Proofs.YtjnlchhikdfifaaGreatDoor
