/- Texts in rows: where one is, whether two rows are the same. -/
import Derived.Test.YteoelcefjjmjiaaTyVars
namespace Go.Proofs.Yteoelcefjjmjiaa
open Go.RowKit
attribute [local go_sem] Oper.semAt_some

theorem TextsAt.part {w : World} {a : Option Addr} {n c : Nat} {l : List ByteArray} (h : TextsAt w (.slice a n c) l) : n = l.length ∧ ∀ i (hi : i < l.length), ∃ g, a = some ⟨g, 0, none⟩ ∧ l.length ≤ c ∧ g < w.heap.size ∧ ∀ W : World, (∀ (k : Nat) (cs : Array Value) (fz : Nat × Nat), w.heap[k]? = some (.cells cs 9 fz) → W.heap[k]? = some (.cells cs 9 fz)) → W.cell? ⟨g, i, none⟩ = some (.string l[i]) := by
  obtain ⟨a', cap, e, h⟩ := h
  cases e
  refine ⟨rfl, fun i hi => ?_⟩
  rcases h with h | ⟨g, e, hc, cs, fz, hg, hh⟩
  · subst h; cases hi
  · refine ⟨g, e, hc, (Array.getElem?_eq_some_iff.1 hg).1, fun W hW => ?_⟩
    rw [Lib.cell_of_heap (hW _ _ _ hg)]; exact hh i hi
theorem TextsAt.shape {w : World} {v : Value} {l : List ByteArray} (h : TextsAt w v l) : ∃ a c, v = .slice a l.length c := by
  obtain ⟨a, c, e, _⟩ := h
  exact ⟨a, c, e⟩
theorem TextsAt.below {w w' : World} {v : Value} {l : List ByteArray} (h : TextsAt w v l) (hb : Below w.heap.size w w') : TextsAt w' v l := h.keep fun k _ _ hk => (hb.block k (Array.getElem?_eq_some_iff.1 hk).1).trans hk

/-- Is it none of the first i? -/
theorem inB_false {l : List ByteArray} {s : ByteArray} (h : ∀ i (hi : i < l.length), ¬ l[i] = s) : inB l s = false := by
  cases hb : inB l s with
  | false => rfl
  | true =>
    obtain ⟨i, hi, e⟩ := List.getElem_of_mem (inB_iff.1 hb)
    exact absurd e (h i hi)

set_option maxHeartbeats 2000000 in
theorem place_any (l : List ByteArray) (hl : l.length ≤ 1000000000) (s : ByteArray) (a : Option Addr) (c : Nat) (w : World) (h : TextsAt w (.slice a l.length c) l) :
    Calls Try.prog 36 #[.slice a l.length c, .string s] w fun e w' => (∃ r : Int, e = .returned (.int .i64 r) ∧ decide (0 ≤ r) = inB l s) ∧ w = w' := by
  have HR := Lib.hid (h.part.2)
  clear h
  go_enter Try.func36, Try.ntmps36
  go_wp2
  go_loop [5] (fun vi => ∃ i : Nat, i ≤ l.length ∧ vi = .int .i64 i ∧ Hid (∀ j (hj : j < l.length), j < i → ¬ l[j] = s)) (fun vi => l.length - (intOf vi).toNat)
  case atStart => exact ⟨0, Nat.zero_le _, rfl, Lib.hid fun j _ h => absurd h (by omega)⟩
  case round =>
    obtain ⟨i, hi, rfl, hS⟩ := hrel
    by_cases hlt : i < l.length
    · obtain ⟨g, rfl, hc, hg, hh⟩ := HR.out i hlt
      have x0 := hh w (fun _ _ _ h => h)
      have hb : (l[i].toList == s.toList) = eqB l[i] s := bytes_beq _ _
      have HE := Lib.hid (show l[i] = l[i] from rfl)
      obtain ⟨u, hu⟩ : ∃ u, l[i] = u := ⟨_, rfl⟩
      have HU := Lib.hid hu
      rw [hu] at x0 hb
      clear hh hu HR HE
      have hlt1 : ((i : Int) < (l.length : Int)) := by omega
      by_cases hq : u = s
      · rw [eqB_true hq] at hb
        have HQ := Lib.hid hq
        clear hq
        go_wp2
        go_ret
        exact ⟨⟨(i : Int), rfl, by
          have : inB l s = true := inB_iff.2 (by rw [← HQ.out, ← HU.out]; exact List.getElem_mem hlt)
          rw [this]; simp⟩, rfl⟩
      · rw [eqB_false hq] at hb
        have HQ := Lib.hid hq
        clear hq
        go_wp2
        go_round
        case rel => exact ⟨i + 1, by omega, by go_num, Lib.hid fun j hj hji => by
          by_cases e : j = i
          · subst e; rw [HU.out]; exact HQ.out
          · exact hS.out j hj (by omega)⟩
        case measure => simp [intOf]; omega
    · obtain rfl : i = l.length := by omega
      clear HR
      go_wp2
      go_ret
      exact ⟨⟨-1, rfl, by rw [inB_false (fun j hj => hS.out j hj hj)]; rfl⟩, rfl⟩

set_option maxHeartbeats 2000000 in
theorem hasR_any (l : List ByteArray) (hl : l.length ≤ 1000000000) (s : ByteArray) (a : Option Addr) (c : Nat) (w : World) (h : TextsAt w (.slice a l.length c) l) :
    Calls Try.prog 14 #[.slice a l.length c, .string s] w fun e w' => e = .returned (.bool (inB l s)) ∧ w = w' := by
  have HP := Lib.hid (place_any l hl s a c w h)
  clear h
  go_enter Try.func14, Try.ntmps14
  go_wp2_with (go_at_call 36; refine HP.out.mono ?_; rintro e w2 ⟨⟨r, rfl, hr⟩, rfl⟩)
  go_ret
  exact ⟨rfl, rfl⟩

set_option maxHeartbeats 2000000 in
theorem sameTexts_any (l l' : List ByteArray) (hl : l.length ≤ 1000000000) (a b : Option Addr) (c d : Nat) (w : World) (h : TextsAt w (.slice a l.length c) l) (h' : TextsAt w (.slice b l'.length d) l') :
    Calls Try.prog 10 #[.slice a l.length c, .slice b l'.length d] w fun e w' => e = .returned (.bool (eqB l l')) ∧ Below w.heap.size w w' := by
  by_cases hlen : l.length = l'.length
  · have hm : ((l.length : Int) != (l'.length : Int)) = false := by simp; omega
    have HR := Lib.hid (h.part.2)
    have HR' := Lib.hid (h'.part.2)
    have HL := Lib.hid hlen
    have hlen1 : l'.length ≤ l.length := by omega
    have hlen2 : l.length ≤ l'.length := by omega
    obtain ⟨res, hres⟩ : ∃ r, eqB l l' = r := ⟨_, rfl⟩
    have HRes := Lib.hid hres
    rw [hres]
    clear h h' hlen hres
    go_enter Try.func10, Try.ntmps10
    go_wp2
    go_loopw [5] (fun vi wr => ∃ i : Nat, i ≤ l.length ∧ vi = .int .i64 i ∧ Hid (Below w.heap.size w wr) ∧ Hid (∀ j (h1 : j < l.length) (h2 : j < l'.length), j < i → l[j] = l'[j])) (fun vi _ => l.length - (intOf vi).toNat)
    case atStart => exact ⟨0, Nat.zero_le _, rfl, Lib.hid (Below.refl _ _), Lib.hid (fun j _ _ h => absurd h (by omega))⟩
    case round =>
      obtain ⟨i, hi, rfl, hB, hS⟩ := hrel
      by_cases hlt : i < l.length
      · have hlt' : i < l'.length := by omega
        obtain ⟨g, rfl, hc, hg, hh⟩ := HR.out i hlt
        obtain ⟨g', rfl, hc', hg', hh'⟩ := HR'.out i hlt'
        have x0 := hh wr (fun k _ _ hk => (hB.out.block k (Array.getElem?_eq_some_iff.1 hk).1).trans hk)
        have y0 := hh' wr (fun k _ _ hk => (hB.out.block k (Array.getElem?_eq_some_iff.1 hk).1).trans hk)
        have hb : (l[i].toList == l'[i].toList) = eqB l[i] l'[i] := bytes_beq _ _
        obtain ⟨u, hu⟩ : ∃ u, l[i] = u := ⟨_, rfl⟩
        obtain ⟨u', hu'⟩ : ∃ u, l'[i] = u := ⟨_, rfl⟩
        have HU := Lib.hid hu; have HU' := Lib.hid hu'
        rw [hu] at x0 hb; rw [hu'] at y0 hb
        clear hh hh' hu hu' HR HR'
        have hlt1 : ((i : Int) < (l.length : Int)) := by omega
        have hlt2 : ((i : Int) < (l'.length : Int)) := by omega
        by_cases hq : u = u'
        · rw [eqB_true hq] at hb
          have HQ := Lib.hid hq
          clear hq
          go_wp2
          go_quiet (fail)
          go_wp2
          go_roundw
          case rel => exact ⟨i + 1, by omega, by go_num, Lib.hid (below_drewN hB.out _), Lib.hid fun j h1 h2 hji => by
            by_cases e : j = i
            · subst e; rw [HU.out, HU'.out]; exact HQ.out
            · exact hS.out j h1 h2 (by omega)⟩
          case measure => simp [intOf]; omega
        · rw [eqB_false hq] at hb
          have e : res = false := by
            rw [← HRes.out]
            refine eqB_false fun e => hq ?_
            rw [← HU.out, ← HU'.out]
            exact List.getElem_of_eq e hlt
          subst e
          clear hq HRes HU HU'
          go_wp2
          go_quiet (fail)
          go_wp2
          go_ret
          exact ⟨rfl, below_drewN hB.out _⟩
      · obtain rfl : i = l.length := by omega
        have e : res = true := by
          rw [← HRes.out]
          exact eqB_true (List.ext_getElem HL.out (fun j h1 h2 => hS.out j h1 h2 h1))
        subst e
        clear HRes HR HR'
        go_wp2
        go_ret
        exact ⟨rfl, hB.out⟩
  · have hm : ((l.length : Int) != (l'.length : Int)) = true := by simp; omega
    rw [eqB_false (fun e => hlen (by rw [e]))]
    clear h h'
    go_enter Try.func10, Try.ntmps10
    go_wp2
    go_ret
    exact ⟨rfl, Below.refl _ _⟩
end Go.Proofs.Yteoelcefjjmjiaa
