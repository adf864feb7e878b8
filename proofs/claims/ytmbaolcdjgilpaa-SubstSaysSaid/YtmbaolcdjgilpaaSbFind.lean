/- (Subst).find: the type that a name has. -/
import Derived.Test.YtmbaolcdjgilpaaSbGather
namespace Go.Proofs.Ytmbaolcdjgilpaa
open Go.RowKit Go.Sort Go.Lib
attribute [local go_sem] Oper.semAt_some

def cmpN (x : PR) (n : ByteArray) : Int := cmpL x.n.data.toList n.data.toList
theorem cmpN_zero {x : PR} {n : ByteArray} : cmpN x n = 0 ↔ x.n = n := by
  have := name_of_cmp (x := x) (y := ⟨n, .var n, none, 0⟩)
  have h2 := cmp_of_name (x := x) (y := ⟨n, .var n, none, 0⟩)
  exact ⟨fun h => this h, fun h => h2 h⟩

set_option maxHeartbeats 1000000 in
theorem cmpN_any (x : PR) (n : ByteArray) (w : World) :
    Calls Try.prog 47 #[pairV x, .string n] w fun e w' => e = .returned (.int .i64 (cmpN x n)) ∧ Below w.heap.size w w' := by
  have HC := Lib.hid (fun W => cmpStr_any x.n n W)
  have hr : cmpL x.n.data.toList n.data.toList = cmpN x n := rfl
  rw [hr] at HC
  have HB := Lib.hid (show ∀ o1 : Obj, Below w.heap.size w (w.alloc o1) from fun o1 => (Below.refl _ w).alloc (Nat.le_refl _) _)
  clear hr
  generalize cmpN x n = r at *
  simp only [pairV]
  go_enter Try.func47, Try.ntmps47
  go_wp2_with (go_at_call 41; refine (HC.out _).mono ?_; rintro e w2 ⟨rfl, rfl⟩)
  go_ret
  exact ⟨rfl, HB.out _⟩

/-- In a row in order: what is less stands ahead. -/
theorem sorted_less {d : List PR} (h : Sorted d) (n : ByteArray) {a b : Nat} (hab : a ≤ b) (hb : b < d.length) (hl : cmpN (d.getD b noP) n < 0) : cmpN (d.getD a noP) n < 0 := by
  rcases Nat.lt_or_ge a b with hlt | hge
  · have h1 := List.pairwise_iff_getElem.1 h a b (by omega) hb hlt
    have ea : d.getD a noP = d[a] := by simp [List.getD, show a < d.length by omega]
    have eb : d.getD b noP = d[b] := by simp [List.getD, hb]
    rw [eb] at hl
    rw [ea]
    exact cmpP_trans (z := ⟨n, .var n, none, 0⟩) h1 hl
  · obtain rfl : a = b := by omega
    exact hl
/-- What the search finds. -/
def Found (d : List PR) (n : ByteArray) (i : Nat) (b : Bool) : Prop := (b = true ∧ i < d.length ∧ lk n d = some (d.getD i noP)) ∨ (b = false ∧ lk n d = none)
theorem found_yes {d : List PR} (h : Sorted d) {n : ByteArray} {i : Nat} (hi : i < d.length) (hz : cmpN (d.getD i noP) n = 0) : Found d n i true :=
  .inl ⟨rfl, hi, by have := lk_sorted h (getD_mem hi); rwa [cmpN_zero.1 hz] at this⟩
theorem found_no {d : List PR} {n : ByteArray} {i : Nat} (h1 : ∀ t, t < i → cmpN (d.getD t noP) n < 0) (h2 : ∀ t, i ≤ t → t < d.length → 0 ≤ cmpN (d.getD t noP) n) (h3 : i < d.length → cmpN (d.getD i noP) n ≠ 0) (hs : Sorted d) : Found d n i false := by
  refine .inr ⟨rfl, ?_⟩
  cases e : lk n d with
  | none => rfl
  | some x =>
    exfalso
    obtain ⟨hm, hn⟩ := lk_name e
    obtain ⟨t, ht, rfl⟩ := List.mem_iff_getElem.1 hm
    have et : d.getD t noP = d[t] := by simp [List.getD, ht]
    have hz : cmpN (d.getD t noP) n = 0 := by rw [et]; exact cmpN_zero.2 hn
    rcases Nat.lt_trichotomy t i with h | h | h
    · have := h1 t h; omega
    · subst h; exact h3 ht hz
    · have hi : i < d.length := by omega
      have h4 := h2 i (Nat.le_refl _) hi
      have h5 := h3 hi
      have h6 := List.pairwise_iff_getElem.1 hs i t hi ht h
      have ei : d.getD i noP = d[i] := by simp [List.getD, hi]
      rw [ei] at h4 h5
      rw [et] at hz
      have h7 := cmpN_zero.1 hz
      have h8 : cmpN d[i] n = cmpP d[i] d[t] := by unfold cmpN cmpP; rw [h7]
      omega

set_option maxHeartbeats 4000000 in
theorem search_some (g cap : Nat) (d : List PR) (n : ByteArray) (w : World) (h : RowP g d w) (hs : Sorted d) (hl : d.length < 1152921504606846976) :
    Calls Try.prog 46 #[.slice (some ⟨g, 0, none⟩) d.length cap, .string n, .func (.func 47) #[] #[]] w fun e w' =>
      (∃ (i : Nat) (b : Bool), e = .returned (.tuple #[.int .i64 (i : Int), .bool b]) ∧ Found d n i b) ∧ Below w.heap.size w w' := by
  have HH := Lib.hid h; have HS := Lib.hid hs
  clear h hs
  go_enter Try.func46, Try.ntmps46
  go_wp2
  go_loopw [9, 10] (fun s9 s10 wr => ∃ lo hi : Nat, (lo ≤ hi ∧ hi ≤ d.length) ∧ s9 = .int .i64 lo ∧ s10 = .int .i64 hi ∧ Hid (Below w.heap.size w wr) ∧
    Hid ((∀ t, t < lo → cmpN (d.getD t noP) n < 0) ∧ (∀ t, hi ≤ t → t < d.length → 0 ≤ cmpN (d.getD t noP) n))) (fun s9 s10 _ => (intOf s10).toNat - (intOf s9).toNat)
  case atStart => exact ⟨0, d.length, ⟨Nat.zero_le _, Nat.le_refl _⟩, rfl, rfl, Lib.hid (Below.refl _ _), Lib.hid ⟨fun t ht => absurd ht (Nat.not_lt_zero _), fun t h1 h2 => by omega⟩⟩
  case round =>
    obtain ⟨lo, hi, ⟨hlh, hin⟩, rfl, rfl, hB, hI⟩ := hrel
    by_cases hlt : lo < hi
    · obtain ⟨m, hm⟩ : ∃ m, (lo + hi) / 2 = m := ⟨_, rfl⟩
      have hmz : ((lo : Int) + (hi : Int)) / 2 = (m : Int) := by omega
      have hm1 : m < d.length := by omega
      have hm1z : (m : Int) < (d.length : Int) := by omega
      obtain ⟨x0, x1, x2, x3⟩ := (HH.out.below hB.out).cells hm1
      have HC := Lib.hid (cmpN_any (d.getD m noP) n wr)
      obtain ⟨r, hr⟩ : ∃ r, cmpN (d.getD m noP) n = r := ⟨_, rfl⟩
      have HR := Lib.hid hr
      rw [hr] at HC
      clear hr
      generalize d.getD m noP = x at x0 x1 x2 x3 HC
      simp only [pairV] at HC
      by_cases hyx : r < 0
      · go_wp2_with (go_at_call 47; refine HC.out.mono ?_; rintro e w2 ⟨rfl, hb2⟩; have HB2 := Lib.hid (hB.out.trans (hb2.mono hB.out.size)); clear hb2)
        go_wp2
        go_roundw
        case rel => exact ⟨m + 1, hi, ⟨by omega, hin⟩, by first | go_num | (congr 1; omega), rfl, HB2, Lib.hid ⟨fun t ht => sorted_less HS.out n (show t ≤ m by omega) hm1 (by rw [HR.out]; exact hyx), hI.out.2⟩⟩
        case measure => simp [intOf]; omega
      · go_wp2_with (go_at_call 47; refine HC.out.mono ?_; rintro e w2 ⟨rfl, hb2⟩; have HB2 := Lib.hid (hB.out.trans (hb2.mono hB.out.size)); clear hb2)
        go_wp2
        go_roundw
        case rel => exact ⟨lo, m, ⟨by omega, by omega⟩, rfl, rfl, HB2, Lib.hid ⟨hI.out.1, fun t ht htn => Int.not_lt.1 fun h => by have := sorted_less HS.out n ht htn h; rw [HR.out] at this; omega⟩⟩
        case measure => simp [intOf]; omega
    · obtain rfl : hi = lo := by omega
      by_cases hn : hi < d.length
      · have hnz : (hi : Int) < (d.length : Int) := by omega
        obtain ⟨x0, x1, x2, x3⟩ := (HH.out.below hB.out).cells hn
        have HC := Lib.hid (cmpN_any (d.getD hi noP) n wr)
        obtain ⟨r, hr⟩ : ∃ r, cmpN (d.getD hi noP) n = r := ⟨_, rfl⟩
        have HR := Lib.hid hr
        rw [hr] at HC
        clear hr
        generalize d.getD hi noP = x at x0 x1 x2 x3 HC
        simp only [pairV] at HC
        by_cases hyx : r = 0
        · subst hyx
          go_wp2_with (go_at_call 47; refine HC.out.mono ?_; rintro e w2 ⟨rfl, hb2⟩; have HB2 := Lib.hid (hB.out.trans (hb2.mono hB.out.size)); clear hb2)
          go_wp2
          go_ret2
          exact ⟨⟨hi, true, rfl, found_yes HS.out hn HR.out⟩, HB2.out⟩
        · have hrz : (r == 0) = false := by simpa using hyx
          have HQ := Lib.hid hyx
          clear hyx
          go_wp2_with (go_at_call 47; refine HC.out.mono ?_; rintro e w2 ⟨rfl, hb2⟩; have HB2 := Lib.hid (hB.out.trans (hb2.mono hB.out.size)); clear hb2)
          go_wp2
          go_ret2
          exact ⟨⟨hi, false, rfl, found_no hI.out.1 hI.out.2 (fun _ => by rw [HR.out]; exact HQ.out) HS.out⟩, HB2.out⟩
      · obtain rfl : hi = d.length := by omega
        go_wp2
        go_ret2
        exact ⟨⟨d.length, false, rfl, found_no hI.out.1 hI.out.2 (fun h => absurd h (Nat.lt_irrefl _)) HS.out⟩, hB.out⟩

theorem search_none (a : Option Addr) (c : Nat) (n : ByteArray) (w : World) :
    Calls Try.prog 46 #[.slice a 0 c, .string n, .func (.func 47) #[] #[]] w fun e w' =>
      e = .returned (.tuple #[.int .i64 0, .bool false]) ∧ w = w' := by
  go_enter Try.func46, Try.ntmps46
  go_wp2
  refine wp_loop_rounds 1 ?_
  rw [rounds_succ]
  go_wp2
  go_ret2
  exact ⟨rfl, rfl⟩
end Go.Proofs.Ytmbaolcdjgilpaa
