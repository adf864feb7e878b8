/- The law's own search: does one need another one, by however many? -/
import Derived.Test.YtlpifioneafciaaGrNeeds
namespace Go.Proofs.Ytlpifioneafciaa
open Go.RowKit Go.Maps Go.Lib
attribute [local go_sem] Oper.semAt_some

/-- A row of truths in block s. -/
def BoolsAt (s n : Nat) (S : Nat → Bool) (w : World) : Prop := ∃ cs, w.heap[s]? = some (.cells cs 4 (0, 0)) ∧ cs.size = n ∧ ∀ i, i < n → cs[i]? = some (.bool (S i))
theorem BoolsAt.cell {s n i : Nat} {S : Nat → Bool} {w : World} (h : BoolsAt s n S w) (hi : i < n) : w.cell? ⟨s, i, none⟩ = some (.bool (S i)) ∧ w.frozen? ⟨s, i, none⟩ = false ∧ s < w.heap.size := by
  obtain ⟨cs, h1, h2, h3⟩ := h
  exact ⟨by rw [Lib.cell_of_heap h1]; exact h3 i hi, Lib.frozen_of_heap h1 i, heap_at h1⟩
theorem BoolsAt.set {s n i : Nat} {S : Nat → Bool} {w : World} (h : BoolsAt s n S w) (hi : i < n) (v : Bool) : BoolsAt s n (updA S i v) (w.setCell ⟨s, i, none⟩ (.bool v)) := by
  obtain ⟨cs, h1, h2, h3⟩ := h
  refine ⟨_, blk_setG h1 _, by simpa using h2, fun j hj => ?_⟩
  by_cases e : j = i
  · subst e; rw [updA_same]; simp [h2, hj]
  · rw [updA_ne S _ e, Array.getElem?_setIfInBounds_ne (Ne.symm e)]; exact h3 j hj
theorem Try.infoBool0 : (Try.prog.info? 4).map (fun i => (i.zero, i.size, i.bytes)) = some (some (.bool false), 1, 1) := by kernel_rfl
theorem make_bools (n : Nat) (hn : n ≤ 1000000000) (w : World) :
    (Instr.makeSlice 51 (.int .i64 (n : Int)) (.int .i64 (n : Int))).run Try.prog w = .ok (.slice (some ⟨w.heap.size, 0, none⟩) n n) (w.alloc (.cells (madeCells #[.bool false] n) 4)) := by
  obtain ⟨i, hi, hz, hs, hb⟩ := info_parts Try.infoBool0
  have hr := run_make (P := Try.prog) w 51 4 i _ Try.underlying51 hi hz .i64 .i64 n n (by omega) (by omega) (by rw [hb]; omega) (by omega)
  simp only [Int.toNat_natCast, hs, Nat.mul_one] at hr
  exact hr
theorem BoolsAt.start (w : World) (n : Nat) : BoolsAt w.heap.size n (fun _ => false) (w.alloc (.cells (madeCells #[.bool false] n) 4)) := by
  refine ⟨madeCells #[.bool false] n, (by show (w.heap.push _)[w.heap.size]? = _; simp), by simp [size_madeCells], fun i hi => ?_⟩
  have := toList_madeCells_one (.bool false) n
  rw [← Array.getElem?_toList, this]
  simp [hi]
/-- How many are not seen. -/
def unseen (n : Nat) (S : Nat → Bool) : Nat := (List.range n).countP fun i => !S i
theorem unseen_set {n i : Nat} {S : Nat → Bool} (hi : i < n) (h : S i = false) : unseen n S = unseen n (updA S i true) + 1 :=
  countP_one (f := fun j => !S j) (g := fun j => !(updA S i true) j) (r := i) (by simp [h]) (by simp [updA_same]) (fun j hj => by simp [updA_ne S _ hj]) _ List.nodup_range (List.mem_range.2 hi)
/-- What the search keeps: S0 is what was seen when the round began. -/
structure SeenI (nd : Nat → List Nat) (n a : Nat) (S0 S : Nat → Bool) (mv : Bool) (i k : Nat) : Prop where
  at' : S a = true
  mono : ∀ j, S0 j = true → S j = true
  more : mv = true → unseen n S < unseen n S0
  none : mv = false → S = S0 ∧ (∀ j, j < i → S0 j = true → ∀ x ∈ nd j, S0 x = true) ∧ (S0 i = true → ∀ m, m < k → S0 ((nd i).getD m 0) = true)
theorem SeenI.start {nd : Nat → List Nat} {n a : Nat} {S : Nat → Bool} (h : S a = true) : SeenI nd n a S S false 0 0 := ⟨h, fun _ h => h, fun h => (by cases h), fun _ => ⟨rfl, fun j hj => by omega, fun _ m hm => by omega⟩⟩
theorem SeenI.next {nd : Nat → List Nat} {n a : Nat} {S0 S : Nat → Bool} {mv : Bool} {i k : Nat} (h : SeenI nd n a S0 S mv i k) (hk : S i = false ∨ k = (nd i).length) : SeenI nd n a S0 S mv (i + 1) 0 := by
  refine ⟨h.at', h.mono, h.more, fun e => ?_⟩
  obtain ⟨e1, e2, e3⟩ := h.none e
  refine ⟨e1, fun j hj hs x hx => ?_, fun _ m hm => by omega⟩
  by_cases hji : j = i
  · subst hji
    rcases hk with hk | hk
    · rw [e1, hs] at hk; cases hk
    · obtain ⟨m, hm, rfl⟩ := List.getElem_of_mem hx
      have := e3 hs m (by omega)
      simpa [List.getD, hm] using this
  · exact e2 j (by omega) hs x hx
theorem SeenI.seen {nd : Nat → List Nat} {n a : Nat} {S0 S : Nat → Bool} {mv : Bool} {i k : Nat} (h : SeenI nd n a S0 S mv i k) (hs : S ((nd i).getD k 0) = true) : SeenI nd n a S0 S mv i (k + 1) := by
  refine ⟨h.at', h.mono, h.more, fun e => ?_⟩
  obtain ⟨e1, e2, e3⟩ := h.none e
  refine ⟨e1, e2, fun h0 m hm => ?_⟩
  by_cases e4 : m = k
  · subst e4; rw [← e1]; exact hs
  · exact e3 h0 m (by omega)
theorem SeenI.add {nd : Nat → List Nat} {n a x : Nat} {S0 S : Nat → Bool} {mv : Bool} {i k : Nat} (h : SeenI nd n a S0 S mv i k) (hx : x < n) (hs : S x = false) : SeenI nd n a S0 (updA S x true) true i (k + 1) := by
  have hle : unseen n S ≤ unseen n S0 := by
    cases hm : mv with
    | true => exact Nat.le_of_lt (h.more hm)
    | false => rw [(h.none hm).1]; exact Nat.le_refl _
  refine ⟨?_, fun j hj => ?_, fun _ => ?_, fun e => (by cases e)⟩
  · unfold updA; split
    · rfl
    · exact h.at'
  · unfold updA; split
    · rfl
    · exact h.mono j hj
  · have := unseen_set hx hs; omega
theorem SeenI.end {nd : Nat → List Nat} {n a b : Nat} {S0 S : Nat → Bool} (h : SeenI nd n a S0 S false n 0) (hne : ∀ i, i < n → ∀ x ∈ nd i, x < n) (ha : a < n) (hr : Rch nd a b) : S b = true := by
  obtain ⟨e1, e2, _⟩ := h.none rfl
  have h0 := h.at'
  rw [e1] at h0 ⊢
  have key : ∀ x y, Rch nd x y → x < n → S0 x = true → S0 y = true := fun x y hxy => by
    induction hxy with
    | refl _ => exact fun _ h => h
    | step h1 _ ih => exact fun hx hs => ih (hne _ hx _ h1) (e2 _ hx hs _ h1)
  exact key a b hr ha h0
set_option maxRecDepth 100000 in
set_option maxHeartbeats 8000000 in
theorem comes_any {q n cap a b : Nat} {nd : Nat → List Nat} (w : World) (h : RowsAt w.heap.size q n nd w) (hn : n ≤ 1000) (hlen : ∀ i, i < n → (nd i).length ≤ 1000) (hne : ∀ i, i < n → ∀ x ∈ nd i, x < n) (ha : a < n) (hb : b < n) (hr : Rch nd a b) :
    Calls Try.prog 11 #[.slice (some ⟨q, 0, none⟩) n cap, .int .i64 (a : Int), .int .i64 (b : Int)] w fun e w' => e = .returned (.bool true) ∧ Below w.heap.size w w' := by
  have hmr := fun w => make_bools n (by omega) w
  have H0 := Lib.hid h
  have HNE := Lib.hid hne
  have HR := Lib.hid hr
  have HLN := Lib.hid hlen
  have haI : (a : Int) < (n : Int) := by omega
  have ha0 : (0 : Int) ≤ (a : Int) := by omega
  have hbI : (b : Int) < (n : Int) := by omega
  have hb0 : (0 : Int) ≤ (b : Int) := by omega
  have hS := (BoolsAt.start w n)
  obtain ⟨c1, c2, c3⟩ := hS.cell ha
  have hS2 := hS.set ha true
  have hB2 := (show Below w.heap.size w ((w.alloc (.cells (madeCells #[.bool false] n) 4)).setCell ⟨w.heap.size, a, none⟩ (.bool true)) from ((Below.refl _ w).alloc (Nat.le_refl _) _).setCell (p := ⟨w.heap.size, a, none⟩) (Nat.le_refl _) _)
  rw [World.setCell_alloc_at _ _ _ _ _ rfl] at hS2 hB2
  have HS := Lib.hid hS2
  have HB := Lib.hid hB2
  clear h hne hr hlen hS hS2 hB2
  go_enter Try.func11, Try.ntmps11
  go_wp2_with fail
  clear c1 c2 c3
  go_loopg [8, 9, 10] n (fun g v8 v9 v10 W => ∃ S : Nat → Bool, Hid (S a = true) ∧ Hid (unseen n S ≤ g) ∧ Hid (BoolsAt w.heap.size n S W) ∧ Hid (Below w.heap.size w W))
  case atStart => exact ⟨_, Lib.hid (updA_same ..), Lib.hid (by have h1 := List.countP_le_length (p := fun i => !(updA (fun _ => false) a true) i) (l := List.range n); simpa [unseen] using h1), HS, HB⟩
  case round =>
    clear HS HB
    generalize gk = gO at *
    rename World => W0
    obtain ⟨S0, hSa, hg, hS0, hB0⟩ := hrel
    have hnI : ((n : Int)) = (n : Int) := rfl
    have HI0 := Lib.hid (SeenI.start (nd := nd) (n := n) hSa.out)
    clear hSa
    go_wp2_with fail
    go_loopw [8, 9, 10] (fun v8 v9 v10 W => ∃ (mv : Bool) (i : Nat) (S : Nat → Bool), i ≤ n ∧ v8 = .bool mv ∧ v9 = .int .i64 i ∧ Hid (SeenI nd n a S0 S mv i 0) ∧ Hid (BoolsAt w.heap.size n S W) ∧ Hid (Below w.heap.size w W)) (fun _ v9 _ _ => n - (RowKit.intOf v9).toNat)
    case atStart => exact ⟨false, 0, S0, Nat.zero_le _, rfl, rfl, HI0, hS0, hB0⟩
    case round =>
      clear HI0 hS0 hB0 W0
      rename World => W1
      obtain ⟨mv, i, S, hin, rfl, rfl, HI, HS, HB⟩ := hrel
      by_cases hlt : i < n
      · have hltI : (i : Int) < (n : Int) := by omega
        have hi0 : (0 : Int) ≤ (i : Int) := by omega
        obtain ⟨nL, hnLe⟩ : ∃ nL, nd i = nL := ⟨_, rfl⟩
        have HNL := Lib.hid hnLe
        have hnl : nL.length ≤ 1000 := hnLe ▸ HLN.out i hlt
        have HNI := Lib.hid (fun x (hx : x ∈ nL) => HNE.out i hlt x (hnLe ▸ hx))
        obtain ⟨ncs, nfz, ng, nsz, nrow⟩ := H0.out
        obtain ⟨nv, nv1, nvr⟩ := nrow i hlt
        rw [hnLe] at nvr
        obtain ⟨na, nc, rfl⟩ := nvr.shape
        have HNR := Lib.hid nvr
        obtain ⟨nn, hnn⟩ : ∃ nn, nL.length = nn := ⟨_, rfl⟩
        rw [hnn] at hnl nv1
        have HNN := Lib.hid hnn
        have HQ := Lib.hid (And.intro ng nv1)
        have hql := heap_at ng
        rw [hnn] at nvr
        clear ng nrow nv1 nvr nsz hnn hnLe
        go_wp2_with fail
        go_loopw [8, 10] (fun v8 v10 W => ∃ (mv : Bool) (k : Nat) (S : Nat → Bool), k ≤ nn ∧ v8 = .bool mv ∧ v10 = .int .i64 k ∧ Hid (SeenI nd n a S0 S mv i k) ∧ Hid (BoolsAt w.heap.size n S W) ∧ Hid (Below w.heap.size w W)) (fun _ v10 _ => nn - (RowKit.intOf v10).toNat)
        case atStart => exact ⟨mv, 0, S, Nat.zero_le _, rfl, rfl, HI, HS, HB⟩
        case round =>
          clear HI HS HB W1
          rename World => W
          obtain ⟨mv, k, S, hkn, rfl, rfl, HI, HS, HB⟩ := hrel
          obtain ⟨s1, s2, s3⟩ := HS.out.cell hlt
          have y1 : W.cell? ⟨q, i, none⟩ = some (.slice na nn nc) := by rw [Lib.cell_of_heap ((HB.out.block q hql).trans HQ.out.1)]; exact HQ.out.2
          cases hsi : S i with
          | false =>
            rw [hsi] at s1
            have HI2 := Lib.hid (HI.out.next (.inl hsi))
            clear hsi HI
            go_wp2_with fail
            go_roundw
            case rel => exact ⟨mv, i + 1, S, by omega, rfl, by go_num, HI2, HS, HB⟩
            case measure => simp [RowKit.intOf]; omega
          | true =>
            rw [hsi] at s1
            by_cases hk : k < nn
            · have hkI : (k : Int) < (nn : Int) := by omega
              have hk0 : (0 : Int) ≤ (k : Int) := by omega
              have hkL : k < nL.length := by rw [HNN.out]; exact hk
              have nr5 : RowN w.heap.size (.slice na nL.length nc) nL W := HNR.out.below fun k hk => HB.out.block k hk
              obtain ⟨ng, no, rfl, nc5⟩ := nr5.cellAt hkL
              obtain ⟨x, hx⟩ : ∃ x, nL.getD k 0 = x := ⟨_, rfl⟩
              rw [hx] at nc5
              have hxm : x ∈ nL := by rw [← hx]; simp [List.getD, hkL]
              have hxN : x < n := HNI.out x hxm
              have hxI : (x : Int) < (n : Int) := by omega
              have hx0 : (0 : Int) ≤ (x : Int) := by omega
              have HX := Lib.hid (show (nd i).getD k 0 = x by rw [HNL.out]; exact hx)
              obtain ⟨t1, t2, t3⟩ := HS.out.cell hxN
              clear hsi hx hxm nr5 hkL
              cases hsx : S x with
              | true =>
                rw [hsx] at t1
                have HI2 := Lib.hid (HI.out.seen (by rw [HX.out]; exact hsx))
                clear hsx HI
                go_wp2_with fail
                go_roundw
                case rel => exact ⟨mv, k + 1, S, by omega, rfl, by go_num, HI2, HS, HB⟩
                case measure => simp [RowKit.intOf]; omega
              | false =>
                rw [hsx] at t1
                have HI2 := Lib.hid (HI.out.add hxN hsx)
                have HS2 := Lib.hid (HS.out.set hxN true)
                have HB2 := Lib.hid (HB.out.setCell (p := ⟨w.heap.size, x, none⟩) (Nat.le_refl _) (.bool true))
                clear hsx HI HS HB
                go_wp2_with fail
                go_roundw
                case rel => exact ⟨true, k + 1, _, by omega, rfl, by go_num, HI2, HS2, HB2⟩
                case measure => simp [RowKit.intOf]; omega
            · obtain rfl : k = nn := by omega
              have hkI : ¬ (k : Int) < (k : Int) := by omega
              have HI2 := Lib.hid (HI.out.next (.inr (by rw [HNL.out, HNN.out])))
              clear hsi HI
              go_wp2_with fail
              go_roundw
              case rel => exact ⟨mv, i + 1, S, by omega, rfl, by go_num, HI2, HS, HB⟩
              case measure => simp [RowKit.intOf]; omega
      · obtain rfl : i = n := by omega
        have hltI : ¬ (i : Int) < (i : Int) := by omega
        cases mv with
        | true =>
          have HSa := Lib.hid HI.out.at'
          have HU := Lib.hid (HI.out.more rfl)
          clear HI
          go_wp2_with fail
          go_roundg (gO - 1)
          case measure => have := HU.out; have := hg.out; omega
          case rel => exact ⟨S, HSa, Lib.hid (by have := HU.out; have := hg.out; omega), HS, HB⟩
        | false =>
          obtain ⟨t1, t2, t3⟩ := HS.out.cell hb
          rw [HI.out.end HNE.out ha HR.out] at t1
          clear HI
          go_wp2
          go_ret
          exact ⟨rfl, HB.out⟩
end Go.Proofs.Ytlpifioneafciaa
