/- types.Has; the document's Size; texts in rows: Place, Has, SameTexts. -/
import Derived.Test.YteoelcefjjmjiaaTySize
namespace Go.Proofs.Yteoelcefjjmjiaa
open Go.RowKit
attribute [local go_sem] Oper.semAt_some

/-- Whether a name is free in a type. -/
noncomputable def hasN (m : ByteArray) (t : T) (r : Bool) : Bool := (eqB t.kind 1 && eqB t.name m) || (!(eqB t.kind 4 && eqB t.name m) && r)
mutual
noncomputable def hasT (m : ByteArray) : T → Bool
  | .var n => eqB n m
  | .con _ l => hasTs m l
  | .fn a b => hasT m a || hasT m b
  | .all n a => !eqB n m && hasT m a
noncomputable def hasTs (m : ByteArray) : List T → Bool
  | [] => false
  | a :: l => hasT m a || hasTs m l
end
theorem hasT_eq (m : ByteArray) (t : T) : hasT m t = hasN m t (hasTs m t.kids) := by
  have e1 : ∀ (a b : Int), eqB a b = decide (a = b) := fun a b => by simp [eqB]
  cases t <;> simp [hasT, hasN, T.kind, T.name, T.kids, hasTs, e1]
theorem hasTs_take (m : ByteArray) (l : List T) (i : Nat) (h : i < l.length) : hasTs m (l.drop i) = (hasT m l[i] || hasTs m (l.drop (i + 1))) := by
  rw [List.drop_eq_getElem_cons h, hasTs]
open Classical in
mutual
theorem fv_mem (t : T) (bd out : List ByteArray) (n : ByteArray) : n ∈ fv bd out t ↔ n ∈ out ∨ (¬ n ∈ bd ∧ hasT n t = true) := by
  cases t with
  | var x =>
    rw [fv, hasT, eqB_iff]
    by_cases h : x ∈ bd ∨ x ∈ out
    · rw [if_pos h]
      constructor
      · exact .inl
      · rintro (h1 | ⟨h1, rfl⟩)
        · exact h1
        · exact h.resolve_left h1
    · rw [if_neg h]
      simp only [List.mem_append, List.mem_singleton]
      constructor
      · rintro (h1 | rfl)
        · exact .inl h1
        · exact .inr ⟨fun e => h (.inl e), rfl⟩
      · rintro (h1 | ⟨_, rfl⟩)
        · exact .inl h1
        · exact .inr rfl
  | con x l => rw [fv, hasT]; exact fvs_mem l bd out n
  | fn a b =>
    rw [fv, hasT, fv_mem b, fv_mem a, Bool.or_eq_true]
    constructor
    · rintro ((h | ⟨h1, h2⟩) | ⟨h1, h2⟩)
      · exact .inl h
      · exact .inr ⟨h1, .inl h2⟩
      · exact .inr ⟨h1, .inr h2⟩
    · rintro (h | ⟨h1, h2 | h2⟩)
      · exact .inl (.inl h)
      · exact .inl (.inr ⟨h1, h2⟩)
      · exact .inr ⟨h1, h2⟩
  | all x a =>
    rw [fv, hasT, fv_mem a, Bool.and_eq_true, Bool.not_eq_true']
    have : eqB x n = false ↔ ¬ n = x := by
      constructor
      · rintro h rfl; rw [eqB_true rfl] at h; cases h
      · intro h; exact eqB_false fun e => h e.symm
    rw [this, List.mem_cons]
    constructor
    · rintro (h | ⟨h1, h2⟩)
      · exact .inl h
      · exact .inr ⟨fun e => h1 (.inr e), fun e => h1 (.inl e), h2⟩
    · rintro (h | ⟨h1, h2, h3⟩)
      · exact .inl h
      · exact .inr ⟨fun e => e.elim h2 h1, h3⟩
theorem fvs_mem (l : List T) (bd out : List ByteArray) (n : ByteArray) : n ∈ fvs bd out l ↔ n ∈ out ∨ (¬ n ∈ bd ∧ hasTs n l = true) := by
  cases l with
  | nil => simp [fvs, hasTs]
  | cons a l =>
    rw [fvs, hasTs, fvs_mem l, fv_mem a, Bool.or_eq_true]
    constructor
    · rintro ((h | ⟨h1, h2⟩) | ⟨h1, h2⟩)
      · exact .inl h
      · exact .inr ⟨h1, .inl h2⟩
      · exact .inr ⟨h1, .inr h2⟩
    · rintro (h | ⟨h1, h2 | h2⟩)
      · exact .inl (.inl h)
      · exact .inl (.inr ⟨h1, h2⟩)
      · exact .inr ⟨h1, h2⟩
end
mutual
theorem has_good (t : T) (h : T.Good t) (n : ByteArray) (hn : ¬ n.data.toList ∈ T.vnames) : hasT n t = false := by
  cases t with
  | var x =>
    rw [hasT]
    exact eqB_false fun e => hn (by rw [T.Good] at h; rw [← e]; exact h)
  | con x l => rw [T.Good] at h; rw [hasT]; exact hass_good l h.2 n hn
  | fn a b => rw [T.Good] at h; rw [hasT, has_good a h.1 n hn, has_good b h.2 n hn]; rfl
  | all x a => rw [T.Good] at h; exact h.elim
theorem hass_good (l : List T) (h : T.Goods l) (n : ByteArray) (hn : ¬ n.data.toList ∈ T.vnames) : hasTs n l = false := by
  cases l with
  | nil => rw [hasTs]
  | cons a l => rw [T.Goods] at h; rw [hasTs, has_good a h.1 n hn, hass_good l h.2 n hn]; rfl
end

def HasOK (m : ByteArray) (t : T) : Prop := ∀ (a : Option Addr) (c : Nat) (w : World), TysAt w (.slice a t.kids.length c) t.kids → tsize t ≤ 1000000000 →
    Calls Try.prog 13 #[tyV t (.slice a t.kids.length c), .string m] w fun e w' => e = .returned (.bool (hasT m t)) ∧ Below w.heap.size w w'
set_option maxHeartbeats 2000000 in
theorem has_step (m : ByteArray) (t : T) (H : ∀ k ∈ t.kids, HasOK m k) : HasOK m t := by
  intro a c w ht hs
  have hz := tsize_eq t
  have hlen := len_sizes' t.kids
  have hb : (t.name.toList == m.toList) = eqB t.name m := bytes_beq _ _
  have hH := hasT_eq m t
  have HR := Lib.hid ht.part
  have HS := Lib.hid H
  have HB := Lib.hid (fun o => (Below.refl _ w).alloc (Nat.le_refl _) o)
  clear H ht
  obtain ⟨res, hr⟩ : ∃ r, hasT m t = r := ⟨_, rfl⟩
  rw [hr] at hH ⊢
  unfold hasN at hH
  simp only [tyV]
  by_cases hn : t.name = m
  · rw [eqB_true hn] at hb hH
    by_cases h1 : t.kind = 1
    · have e : res = true := by rw [hH, eqB_true h1]; rfl
      subst e
      have q1 : (t.kind == 1) = true := by simpa using h1
      clear hH hr HR HS hz hlen h1 hn
      go_enter Try.func13, Try.ntmps13
      go_wp2
      go_ret
      exact ⟨rfl, HB.out _⟩
    · by_cases h4 : t.kind = 4
      · have e : res = false := by rw [hH, eqB_false h1, eqB_true h4]; rfl
        subst e
        have q1 : (t.kind == 1) = false := by simpa using h1
        have q4 : (t.kind == 4) = true := by simpa using h4
        clear hH hr HR HS hz hlen h1 hn h4
        go_enter Try.func13, Try.ntmps13
        go_wp2
        go_ret
        exact ⟨rfl, HB.out _⟩
      · have e : res = hasTs m t.kids := by rw [hH, eqB_false h1, eqB_false h4]; simp
        have q1 : (t.kind == 1) = false := by simpa using h1
        have q4 : (t.kind == 4) = false := by simpa using h4
        have HE := Lib.hid e
        clear hH hr h1 h4 hn e
        go_enter Try.func13, Try.ntmps13
        go_wp2
        go_loopw [30] (fun vi wr => ∃ i : Nat, i ≤ t.kids.length ∧ vi = .int .i64 i ∧ Hid (Below w.heap.size w wr ∧ hasTs m (t.kids.drop i) = res)) (fun vi _ => t.kids.length - (intOf vi).toNat)
        case atStart => exact ⟨0, Nat.zero_le _, rfl, Lib.hid ⟨HB.out _, HE.out.symm⟩⟩
        case round =>
          obtain ⟨i, hi, rfl, hBE⟩ := hrel
          obtain ⟨hB, hE⟩ := hBE.out
          by_cases hlt : i < t.kids.length
          · obtain ⟨g, pa, ca, rfl, hcap, hr⟩ := HR.out i hlt
            obtain ⟨⟨hg, x0, x1, x2⟩, xk⟩ := hr wr (KeepT.of_below hB)
            have hkk := size_mem' (List.getElem_mem hlt)
            have HC := Lib.hid (fun o => HS.out t.kids[i] (List.getElem_mem hlt) pa ca (wr.alloc o) (xk.keep (keepT_alloc wr o)) (by omega))
            have HX := Lib.hid (fun (o : Obj) => hB.alloc hB.size o)
            rw [hasTs_take m t.kids i hlt] at hE
            clear hr xk hkk HS HR HB hB hBE HE
            generalize t.kids[i] = u at x0 x1 x2 HC hE
            simp only [tyV] at HC
            have hlt1 : ((i : Int) < (t.kids.length : Int)) := by omega
            cases hq : hasT m u with
            | true =>
              rw [hq] at HC hE
              have e : res = true := by rw [← hE]; rfl
              subst e
              clear hq hE
              go_wp2_with (go_at_call 13; refine (HC.out _).mono ?_; rintro e w2 ⟨rfl, r1⟩; have HW2 := Lib.hid ((HX.out _).trans (r1.mono (by simp; have := (HX.out (.cells #[] 0)).size; simp at this; omega))); clear r1)
              go_ret
              exact ⟨rfl, HW2.out⟩
            | false =>
              rw [hq, Bool.false_or] at hE
              rw [hq] at HC
              have HE := Lib.hid hE
              clear hq hE
              go_wp2_with (go_at_call 13; refine (HC.out _).mono ?_; rintro e w2 ⟨rfl, r1⟩; have HW2 := Lib.hid ((HX.out _).trans (r1.mono (by simp; have := (HX.out (.cells #[] 0)).size; simp at this; omega))); clear r1)
              refine ⟨⟨i + 1, by omega, by go_num, Lib.hid ⟨HW2.out, HE.out⟩⟩, ?_⟩
              simp [intOf]; omega
          · obtain rfl : i = t.kids.length := by omega
            have e : res = false := by rw [← hE, List.drop_length, hasTs]
            subst e
            have HB' := Lib.hid hB
            clear HR HS HB HE hE hB hBE
            go_wp2
            go_ret
            exact ⟨rfl, HB'.out⟩
  · rw [eqB_false hn] at hb hH
    have e : res = hasTs m t.kids := by rw [hH]; simp
    have HE := Lib.hid e
    clear hH hr hn e
    go_enter Try.func13, Try.ntmps13
    go_wp2
    all_goals
      go_loopw [30] (fun vi wr => ∃ i : Nat, i ≤ t.kids.length ∧ vi = .int .i64 i ∧ Hid (Below w.heap.size w wr ∧ hasTs m (t.kids.drop i) = res)) (fun vi _ => t.kids.length - (intOf vi).toNat)
      case atStart => exact ⟨0, Nat.zero_le _, rfl, Lib.hid ⟨HB.out _, HE.out.symm⟩⟩
      case round =>
        obtain ⟨i, hi, rfl, hBE⟩ := hrel
        obtain ⟨hB, hE⟩ := hBE.out
        by_cases hlt : i < t.kids.length
        · obtain ⟨g, pa, ca, rfl, hcap, hr⟩ := HR.out i hlt
          obtain ⟨⟨hg, x0, x1, x2⟩, xk⟩ := hr wr (KeepT.of_below hB)
          have hkk := size_mem' (List.getElem_mem hlt)
          have HC := Lib.hid (fun o => HS.out t.kids[i] (List.getElem_mem hlt) pa ca (wr.alloc o) (xk.keep (keepT_alloc wr o)) (by omega))
          have HX := Lib.hid (fun (o : Obj) => hB.alloc hB.size o)
          rw [hasTs_take m t.kids i hlt] at hE
          clear hr xk hkk HS HR HB hB hBE HE
          generalize t.kids[i] = u at x0 x1 x2 HC hE
          simp only [tyV] at HC
          have hlt1 : ((i : Int) < (t.kids.length : Int)) := by omega
          cases hq : hasT m u with
          | true =>
            rw [hq] at HC hE
            have e : res = true := by rw [← hE]; rfl
            subst e
            clear hq hE
            go_wp2_with (go_at_call 13; refine (HC.out _).mono ?_; rintro e w2 ⟨rfl, r1⟩; have HW2 := Lib.hid ((HX.out _).trans (r1.mono (by simp; have := (HX.out (.cells #[] 0)).size; simp at this; omega))); clear r1)
            go_ret
            exact ⟨rfl, HW2.out⟩
          | false =>
            rw [hq, Bool.false_or] at hE
            rw [hq] at HC
            have HE := Lib.hid hE
            clear hq hE
            go_wp2_with (go_at_call 13; refine (HC.out _).mono ?_; rintro e w2 ⟨rfl, r1⟩; have HW2 := Lib.hid ((HX.out _).trans (r1.mono (by simp; have := (HX.out (.cells #[] 0)).size; simp at this; omega))); clear r1)
            refine ⟨⟨i + 1, by omega, by go_num, Lib.hid ⟨HW2.out, HE.out⟩⟩, ?_⟩
            simp [intOf]; omega
        · obtain rfl : i = t.kids.length := by omega
          have e : res = false := by rw [← hE, List.drop_length, hasTs]
          subst e
          have HB' := Lib.hid hB
          clear HR HS HB HE hE hB hBE
          go_wp2
          go_ret
          exact ⟨rfl, HB'.out⟩
theorem has_any {m : ByteArray} {t : T} {v : Value} {w : World} (hs : tsize t ≤ 1000000000) (h : TysAt w v t.kids) :
    Calls Try.prog 13 #[tyV t v, .string m] w fun e w' => e = .returned (.bool (hasT m t)) ∧ Below w.heap.size w w' := by
  obtain ⟨a, c, rfl⟩ := h.shape
  exact T.by_kids (P := HasOK m) (has_step m) t a c w h hs
end Go.Proofs.Yteoelcefjjmjiaa
