/- The document's types: Size, Compare. -/
import Derived.Test.YteoelcefjjmjiaaTySize
import Derived.Test.YteoelcefjjmjiaaTyCmp
namespace Go.Proofs.Yteoelcefjjmjiaa
open Go.RowKit
attribute [local go_sem] Oper.semAt_some

set_option maxHeartbeats 2000000 in
theorem rsize_step (t : T) (H : ∀ k ∈ t.kids, SizeOK 16 k) : SizeOK 16 t := by
  intro a c w ht hs
  have hz := tsize_eq t
  have hlen := len_sizes' t.kids
  have HR := Lib.hid ht.part
  have HS := Lib.hid H
  have HB := Lib.hid (fun o => (Below.refl _ w).alloc (Nat.le_refl _) o)
  clear H ht
  simp only [tyV]
  go_enter Try.func16, Try.ntmps16
  go_wp2
  go_loopw [3, 4] (fun vn vi wr => ∃ i : Nat, i ≤ t.kids.length ∧ vi = .int .i64 i ∧ vn = .int .i64 ((1 + tsizes (t.kids.take i) : Nat) : Int) ∧ Hid (Below w.heap.size w wr) ∧ Hid (wr.heap[w.heap.size]? = some (.cells #[.int .i64 t.kind, .string t.name, .slice a t.kids.length c] 29 (0, 0)))) (fun _ vi _ => t.kids.length - (intOf vi).toNat)
  case atStart => exact ⟨0, Nat.zero_le _, rfl, by simp [tsizes], Lib.hid (HB.out _), Lib.hid (alloc_new w _)⟩
  case round =>
    obtain ⟨i, hi, rfl, rfl, hB, hBox⟩ := hrel
    obtain ⟨y0, y1, y2⟩ := three_cells hBox.out
    by_cases hlt : i < t.kids.length
    · obtain ⟨g, pa, ca, rfl, hcap, hr⟩ := HR.out i hlt
      obtain ⟨⟨hg, x0, x1, x2⟩, xk⟩ := hr wr (KeepT.of_below hB.out)
      have hsz := tsizes_take t.kids i hlt
      have hkk := size_mem' (List.getElem_mem hlt)
      have HC := Lib.hid (HS.out t.kids[i] (List.getElem_mem hlt) pa ca wr xk (by omega))
      have hn1 : (1 + tsizes (t.kids.take i) : Nat) + tsize t.kids[i] = (1 + tsizes (t.kids.take (i + 1)) : Nat) := by omega
      have hn2 : (1 + tsizes (t.kids.take (i + 1)) : Nat) ≤ 1000000000 := by omega
      clear hr xk hsz hkk HS HR HB
      generalize t.kids[i] = u at x0 x1 x2 HC hn1
      simp only [tyV] at HC
      have hlt1 : ((i : Int) < (t.kids.length : Int)) := by omega
      generalize (1 + tsizes (t.kids.take i) : Nat) = n at hn1 ⊢
      generalize hm : (1 + tsizes (t.kids.take (i + 1)) : Nat) = m at hn1 hn2
      have HM := Lib.hid hm
      have HN := Lib.hid hn1
      have hn3 : n + tsize u ≤ 1000000000 := by omega
      clear hm hn1 hn2
      go_wp2_with (go_at_call 16; refine HC.out.mono ?_; rintro e w2 ⟨rfl, r1⟩; have HW2 := Lib.hid (hB.out.trans (r1.mono hB.out.size)); have HB2 := Lib.hid ((r1.block _ (Array.getElem?_eq_some_iff.1 hBox.out).1).trans hBox.out); clear r1)
      refine ⟨⟨i + 1, by omega, by go_num, ?_, HW2, HB2⟩, ?_⟩
      · rw [HM.out, ← HN.out]; go_num
      · simp [intOf]; omega
    · obtain rfl : i = t.kids.length := by omega
      rw [List.take_length, ← hz]
      clear HR HS HB
      go_wp2
      go_ret
      exact ⟨rfl, hB.out⟩
theorem rsize_any {t : T} {v : Value} {w : World} (hs : tsize t ≤ 1000000000) (h : TysAt w v t.kids) :
    Calls Try.prog 16 #[tyV t v] w fun e w' => e = .returned (.int .i64 (tsize t : Nat)) ∧ Below w.heap.size w w' := by
  obtain ⟨a, c, rfl⟩ := h.shape
  exact T.by_kids (P := SizeOK 16) rsize_step t a c w h hs

theorem sign_of (a b r : Int) (w : World) (h : a < b ∧ r = -1 ∨ (¬ a < b ∧ b < a) ∧ r = 1 ∨ (¬ a < b ∧ ¬ b < a) ∧ r = 0) : Calls Try.prog 41 #[.int .i64 a, .int .i64 b] w fun e w' => e = .returned (.int .i64 r) ∧ w = w' := by
  rcases h with ⟨h, rfl⟩ | ⟨⟨h, h'⟩, rfl⟩ | ⟨⟨h, h'⟩, rfl⟩
  all_goals
    go_enter Try.func41, Try.ntmps41
    go_wp2
    go_ret
    exact ⟨rfl, rfl⟩
theorem sign_any (a b : Int) (w : World) : Calls Try.prog 41 #[.int .i64 a, .int .i64 b] w fun e w' => e = .returned (.int .i64 (sgn a b)) ∧ w = w' :=
  sign_of a b _ w (by unfold sgn; (repeat' split) <;> omega)

def RCmpOK (t : T) : Prop := ∀ (t' : T) (a b : Option Addr) (c d : Nat) (w : World), TysAt w (.slice a t.kids.length c) t.kids → TysAt w (.slice b t'.kids.length d) t'.kids → tsize t ≤ 1000000000 →
    Calls Try.prog 20 #[tyV t (.slice a t.kids.length c), tyV t' (.slice b t'.kids.length d)] w fun e w' => e = .returned (.int .i64 (cmpT t t')) ∧ Below w.heap.size w w'

/-- What was found before the parts are looked at. -/
theorem cmp_done {t t' : T} {hd : Int} (h : orI (sgn t.kind t'.kind) (orI (cmpL t.name.data.toList t'.name.data.toList) (sgn t.kids.length t'.kids.length)) = hd) (hz : ¬ hd = 0) : cmpT t t' = hd := by
  have h' := cmpT_eq t t'
  rw [h', ← h]
  unfold orI at *
  by_cases hp : sgn t.kind t'.kind = 0
  · by_cases hq : cmpL t.name.data.toList t'.name.data.toList = 0
    · by_cases hr : sgn (t.kids.length : Int) t'.kids.length = 0
      · simp [hp, hq, hr] at h; omega
      · simp [hp, hq, hr]
    · simp [hp, hq]
  · simp [hp]

set_option maxHeartbeats 4000000 in
theorem rcmp_step (t : T) (H : ∀ k ∈ t.kids, RCmpOK k) : RCmpOK t := by
  intro t' a b c d w h h' hs
  have hz := tsize_eq t
  have hlen := len_sizes' t.kids
  have hB : ∀ o1 o2 : Obj, Below w.heap.size w ((w.alloc o1).alloc o2) := fun o1 o2 => ((Below.refl _ w).alloc (Nat.le_refl _) _).alloc (by simp) _
  have HB := Lib.hid hB; clear hB
  have e1 : (t.name.toList == t'.name.toList) = decide (cmpL t.name.data.toList t'.name.data.toList = 0) := by rw [Lib.toList_data, Lib.toList_data, beq_cmpL]
  have e2 : Op.bytesLess t.name.toList t'.name.toList = decide (cmpL t.name.data.toList t'.name.data.toList < 0) := by rw [Lib.toList_data, Lib.toList_data, less_cmpL]
  have hp1 := sgn_unit t.kind t'.kind
  have hq1 := cmpL_unit t.name.data.toList t'.name.data.toList
  have hr1 := sgn_unit (t.kids.length : Int) t'.kids.length
  obtain ⟨p, hp⟩ : ∃ p, sgn t.kind t'.kind = p := ⟨_, rfl⟩
  obtain ⟨q, hq⟩ : ∃ p, cmpL t.name.data.toList t'.name.data.toList = p := ⟨_, rfl⟩
  obtain ⟨r, hr⟩ : ∃ p, sgn (t.kids.length : Int) t'.kids.length = p := ⟨_, rfl⟩
  have HSK := Lib.hid (fun (W : World) => sign_any t.kind t'.kind W)
  have HSL := Lib.hid (fun (W : World) => sign_any (t.kids.length : Int) t'.kids.length W)
  have HD := fun (hz : ¬ orI p (orI q r) = 0) => cmp_done (t := t) (t' := t') (hd := orI p (orI q r)) (by rw [hp, hq, hr]) hz
  have HEq := cmpT_eq t t'
  have HLen : r = 0 → t.kids.length = t'.kids.length := fun e => by rw [← hr] at e; have := sgn_zero.1 e; omega
  rw [hp] at HSK hp1
  rw [hq] at e1 e2 hq1
  rw [hr] at HSL hr1
  rw [hp, hq, hr] at HEq
  obtain ⟨res, hres⟩ : ∃ p, cmpT t t' = p := ⟨_, rfl⟩
  rw [hres] at HEq HD ⊢
  have HEq' := Lib.hid HEq; have HD' := Lib.hid HD; have HLen' := Lib.hid HLen
  clear hp hq hr hres HEq HD HLen
  by_cases hp0 : p = 0
  · subst hp0
    by_cases hq0 : q = 0
    · subst hq0
      simp only [decide_true, Int.lt_irrefl, decide_false] at e1 e2
      by_cases hr0 : r = 0
      · subst hr0
        have hl := HLen'.out rfl
        have HR := Lib.hid h.part
        rw [← hl] at h'
        have HR' := Lib.hid (hl ▸ h').part
        have HS := Lib.hid H
        have HL := Lib.hid hl
        have hres : cmpTs t.kids t'.kids = res := HEq'.out.symm
        have HRs := Lib.hid hres
        clear h h' H hl hres HD' HEq' HLen' hp1 hq1 hr1
        simp only [tyV]
        go_enter Try.func20, Try.ntmps20
        go_wp2_with (go_at_call 41; first | ((with_reducible refine (HSK.out _).mono ?_); rintro e w2 ⟨rfl, rfl⟩) | ((with_reducible refine (HSL.out _).mono ?_); rintro e w2 ⟨rfl, rfl⟩))
        go_loopw [5, 6] (fun vn vi wr => ∃ (i : Nat) (m : Int), i ≤ t.kids.length ∧ vi = .int .i64 i ∧ vn = .int .i64 m ∧ Hid ((m = 0 ∧ cmpTs (t.kids.drop i) (t'.kids.drop i) = res) ∨ (¬ m = 0 ∧ m = res)) ∧ Hid (Below w.heap.size w wr) ∧
          Hid (wr.heap[w.heap.size]? = some (.cells #[.int .i64 t.kind, .string t.name, .slice a t.kids.length c] 29 (0, 0)) ∧ wr.heap[w.heap.size + 1]? = some (.cells #[.int .i64 t'.kind, .string t'.name, .slice b t'.kids.length d] 29 (0, 0)))) (fun _ vi _ => t.kids.length - (intOf vi).toNat)
        case atStart => exact ⟨0, 0, Nat.zero_le _, rfl, rfl, Lib.hid (.inl ⟨rfl, by simpa using HRs.out⟩), Lib.hid (HB.out _ _), Lib.hid ⟨(Below.heap_alloc _ _ _ (by simp)).trans (alloc_new w _), by have := alloc_new (w.alloc (.cells #[.int .i64 t.kind, .string t.name, .slice a t.kids.length c] 29)) (.cells #[.int .i64 t'.kind, .string t'.name, .slice b t'.kids.length d] 29); simpa using this⟩⟩
        case round =>
          obtain ⟨i, m, hi, rfl, rfl, hM, hBl, hBox⟩ := hrel
          obtain ⟨z0, z1, z2⟩ := three_cells hBox.out.1
          obtain ⟨z3, z4, z5⟩ := three_cells hBox.out.2
          rcases hM.out with ⟨rfl, hc⟩ | ⟨hm, rfl⟩
          · by_cases hlt : i < t.kids.length
            · have hlt' : i < t'.kids.length := by have := HL.out; omega
              obtain ⟨g, pa, ca, rfl, hcap, hr⟩ := HR.out i hlt
              obtain ⟨g', pb, cb, rfl, hcap', hr'⟩ := HR'.out i hlt'
              obtain ⟨⟨hg, x0, x1, x2⟩, xk⟩ := hr wr (KeepT.of_below hBl.out)
              obtain ⟨⟨hg', y0, y1, y2⟩, yk⟩ := hr' wr (KeepT.of_below hBl.out)
              have hkk := size_mem' (List.getElem_mem hlt)
              have HC := Lib.hid (HS.out t.kids[i] (List.getElem_mem hlt) t'.kids[i] pa pb ca cb wr.drew (xk.keep (show KeepT wr wr.drew from fun _ _ _ h => h)) (yk.keep (show KeepT wr wr.drew from fun _ _ _ h => h)) (by omega))
              have hd := cmp_drop t.kids t'.kids i hlt hlt'
              rw [hc] at hd
              clear hr hr' xk yk hkk HS HR HR' hM hc HRs
              generalize t.kids[i] = u at x0 x1 x2 HC hd
              generalize t'.kids[i] = u' at y0 y1 y2 HC hd
              simp only [tyV] at HC
              have HDr := Lib.hid hd; clear hd
              obtain ⟨k, hk⟩ : ∃ k, cmpT u u' = k := ⟨_, rfl⟩
              rw [hk] at HC
              have HK := Lib.hid hk; clear hk
              have hlt1 : ((i : Int) < (t.kids.length : Int)) := by omega
              have hlt2 : ((i : Int) < (t'.kids.length : Int)) := by omega
              have lb : w.heap.size + 1 < wr.heap.size := (Array.getElem?_eq_some_iff.1 hBox.out.2).1
              go_wp2
              go_region_held3 (fun V => V.cell? ⟨w.heap.size, 2, none⟩ = some (.slice (some ⟨g, 0, none⟩) t.kids.length c) ∧ V.cell? ⟨w.heap.size + 1, 2, none⟩ = some (.slice (some ⟨g', 0, none⟩) t'.kids.length d) ∧ (V.cell? ⟨g, i * 3, none⟩ = some (.int .i64 u.kind) ∧ V.cell? ⟨g, i * 3 + 1, none⟩ = some (.string u.name) ∧ V.cell? ⟨g, i * 3 + 2, none⟩ = some (.slice pa u.kids.length ca)) ∧ (V.cell? ⟨g', i * 3, none⟩ = some (.int .i64 u'.kind) ∧ V.cell? ⟨g', i * 3 + 1, none⟩ = some (.string u'.name) ∧ V.cell? ⟨g', i * 3 + 2, none⟩ = some (.slice pb u'.kids.length cb)))
                (first | exact ⟨z2, z5, ⟨x0, x1, x2⟩, y0, y1, y2⟩ | exact ⟨v2, v5, ⟨v6, v7, v8⟩, v9, v10, v11⟩)
                ((go_at_call 20; refine HC.out.mono ?_; rintro e w2 ⟨rfl, hb2⟩; have cc : ∀ (b o : Nat) (x : Value), b < wr.heap.size → wr.cell? ⟨b, o, none⟩ = some x → w2.cell? ⟨b, o, none⟩ = some x := (fun b o x hb hx => (hb2.cell (p := ⟨b, o, none⟩) hb).trans hx); have v2 := cc _ _ _ (by omega) z2; have v5 := cc _ _ _ lb z5; have v6 := cc _ _ _ hg x0; have v7 := cc _ _ _ hg x1; have v8 := cc _ _ _ hg x2; have v9 := cc _ _ _ hg' y0; have v10 := cc _ _ _ hg' y1; have v11 := cc _ _ _ hg' y2; have HB2 := Lib.hid (hBl.out.drew.trans (hb2.mono hBl.out.size)); have HBox2 := Lib.hid (And.intro ((hb2.block w.heap.size (by show w.heap.size < wr.heap.size; omega)).trans hBox.out.1) ((hb2.block (w.heap.size + 1) lb).trans hBox.out.2)); clear cc hb2))
              all_goals
                clear z0 z1 z2 z3 z4 z5 x0 x1 x2 y0 y1 y2 v2 v5 v6 v7 v8 v9 v10 v11
                go_wp2
                go_roundw
                case rel =>
                  refine ⟨i + 1, k, by omega, by go_num, rfl, Lib.hid ?_, HB2, HBox2⟩
                  have := HDr.out
                  rw [HK.out] at this
                  by_cases h0 : k = 0
                  · exact .inl ⟨h0, by rw [this, h0]; rfl⟩
                  · exact .inr ⟨h0, by rw [this, orI, if_neg h0]⟩
                case measure => simp [intOf]; omega
            · obtain rfl : i = t.kids.length := by omega
              have e : res = 0 := by rw [← hc, List.drop_length, HL.out, List.drop_length, cmpTs]
              subst e
              clear HR HR' HS HRs hM hc
              go_wp2
              go_ret
              exact ⟨rfl, hBl.out⟩
          · have hz1 : (m == 0) = false := by simpa using hm
            clear HR HR' HS HRs hM hm
            go_wp2
            all_goals go_ret
            all_goals exact ⟨rfl, hBl.out⟩
      · have e : res = r := by have := HD'.out (by simpa [orI] using hr0); simpa [orI] using this
        subst e
        have hz1 : (res == 0) = false := by simpa using hr0
        clear h h' H HD' HEq' HLen' hp1 hq1 hr1 hr0
        simp only [tyV]
        go_enter Try.func20, Try.ntmps20
        go_wp2_with (go_at_call 41; first | ((with_reducible refine (HSK.out _).mono ?_); rintro e w2 ⟨rfl, rfl⟩) | ((with_reducible refine (HSL.out _).mono ?_); rintro e w2 ⟨rfl, rfl⟩))
        refine wp_loop_rounds 1 ?_
        rw [rounds_succ]; go_wp2
        all_goals go_ret
        all_goals exact ⟨rfl, HB.out _ _⟩
    · have e : res = q := by have := HD'.out (by simp [orI, hq0]); simpa [orI, hq0] using this
      subst e
      have hz1 : (res == 0) = false := by simpa using hq0
      rw [decide_eq_false hq0] at e1
      clear h h' H HD' HEq' HLen' hp1 hr1
      simp only [tyV]
      rcases hq1 with rfl | rfl | rfl
      · simp at e2
        go_enter Try.func20, Try.ntmps20
        go_wp2_with (go_at_call 41; ((with_reducible refine (HSK.out _).mono ?_); rintro e w2 ⟨rfl, rfl⟩))
        refine wp_loop_rounds 1 ?_
        rw [rounds_succ]; go_wp2
        all_goals go_ret
        all_goals exact ⟨rfl, HB.out _ _⟩
      · exact absurd rfl hq0
      · simp at e2
        go_enter Try.func20, Try.ntmps20
        go_wp2_with (go_at_call 41; ((with_reducible refine (HSK.out _).mono ?_); rintro e w2 ⟨rfl, rfl⟩))
        refine wp_loop_rounds 1 ?_
        rw [rounds_succ]; go_wp2
        all_goals go_ret
        all_goals exact ⟨rfl, HB.out _ _⟩
  · have e : res = p := by have := HD'.out (by simp [orI, hp0]); simpa [orI, hp0] using this
    subst e
    have hz1 : (res == 0) = false := by simpa using hp0
    clear h h' H HD' HEq' HLen' hp1 hq1 hr1 hp0
    simp only [tyV]
    go_enter Try.func20, Try.ntmps20
    go_wp2_with (go_at_call 41; ((with_reducible refine (HSK.out _).mono ?_); rintro e w2 ⟨rfl, rfl⟩))
    refine wp_loop_rounds 1 ?_
    rw [rounds_succ]; go_wp2
    all_goals go_ret
    all_goals exact ⟨rfl, HB.out _ _⟩
theorem rcmp_any {t t' : T} {v v' : Value} {w : World} (hs : tsize t ≤ 1000000000) (h : TysAt w v t.kids) (h' : TysAt w v' t'.kids) :
    Calls Try.prog 20 #[tyV t v, tyV t' v'] w fun e w' => e = .returned (.int .i64 (cmpT t t')) ∧ Below w.heap.size w w' := by
  obtain ⟨a, c, rfl⟩ := h.shape
  obtain ⟨b, d, rfl⟩ := h'.shape
  exact T.by_kids (P := RCmpOK) rcmp_step t t' a b c d w h h' hs
end Go.Proofs.Yteoelcefjjmjiaa
