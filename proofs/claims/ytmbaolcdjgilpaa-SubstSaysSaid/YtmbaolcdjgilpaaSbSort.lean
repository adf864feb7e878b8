/- A row of pairs is sorted by names: slices.SortStableFunc of fewer than twenty. -/
import Derived.Test.YtmbaolcdjgilpaaSbMem
namespace Go.Proofs.Ytmbaolcdjgilpaa
open Go.RowKit Go.Sort
attribute [local go_sem] Oper.semAt_some

def pairV (x : PR) : Value := .agg #[.string x.n, .int .i64 x.t.kind, .string x.t.name, .slice x.a x.t.kids.length x.c]

set_option maxHeartbeats 1000000 in
theorem cmpP_any (x y : PR) (w : World) :
    Calls Try.prog 40 #[pairV x, pairV y] w fun e w' => e = .returned (.int .i64 (cmpP x y)) ∧ w' = (w.alloc (.cells (encP x).toArray 58)).alloc (.cells (encP y).toArray 58) := by
  have HC := Lib.hid (fun W => cmpStr_any x.n y.n W)
  have hr : cmpL x.n.data.toList y.n.data.toList = cmpP x y := rfl
  rw [hr] at HC
  clear hr
  generalize cmpP x y = r at *
  simp only [pairV, encP]
  go_enter Try.func40, Try.ntmps40
  go_wp2_with (go_at_call 41; refine (HC.out _).mono ?_; rintro e w2 ⟨rfl, rfl⟩)
  go_ret
  exact ⟨rfl, rfl⟩

theorem cmpP_lays (blk off size : Nat) (w : World) : CmpLays Try.prog 40 #[] encP 4 cmpP blk off size w := by
  intro m os dk _ x y
  refine (cmpP_any x y _).mono ?_
  rintro e w' ⟨rfl, rfl⟩
  refine ⟨rfl, 0, #[.cells (encP x).toArray 58, .cells (encP y).toArray 58], ?_⟩
  rw [alloc_eq_grow, alloc_eq_grow, grow_grow]; rfl

def insRen : Go.Shelf.Ren := ⟨fun | 20 => 52 | n => n, fun | 0 => 0 | 3 => 3 | 4 => 4 | 22 => 28 | 24 => 58 | 25 => 77 | n => n, fun n => n⟩
theorem insLay : SlLaysF0.n20 Try.prog insRen :=
  { mixed := by kernel_rfl
    f20 := ⟨Try.f52.name, by decide, by kernel_rfl⟩
    t0 := by kernel_rfl
    a0 := fun _ => by kernel_rfl
    z0 := fun _ => by kernel_rfl
    v0 := fun _ => by kernel_rfl
    t3 := by kernel_rfl
    a3 := fun _ => by kernel_rfl
    z3 := fun _ => by kernel_rfl
    v3 := fun _ => by kernel_rfl
    t4 := by kernel_rfl
    a4 := fun _ => by kernel_rfl
    z4 := fun _ => by kernel_rfl
    v4 := fun _ => by kernel_rfl
    t22 := by kernel_rfl
    a22 := fun _ => by kernel_rfl
    z22 := fun _ => by kernel_rfl
    v22 := fun _ => by kernel_rfl
    t25 := by kernel_rfl
    a25 := fun _ => by kernel_rfl
    z25 := fun _ => by kernel_rfl
    v25 := fun _ => by kernel_rfl }
theorem insert_any (g cap : Nat) (l : List PR) (w : World) (h : RowP g l w) (hl : l.length < 4611686018427387904) :
    Calls Try.prog 52 #[.slice (some ⟨g, 0, none⟩) l.length cap, .int .i64 0, .int .i64 (l.length : Int), .func (.func 40) #[] #[]] w fun e w' =>
      e = .returned (.tuple #[]) ∧ ∃ m os, w' = sortWorldK encP 4 w g 0 m (insertionSort ltP l.toArray 0 l.toArray.size) os := by
  have : Calls Try.prog 52 _ _ _ := AnyQ.insertionSortCmpFunc insLay 4 Try.isAgg58 Try.sizeOf58 encP encP_len encP_one cmpP 40 #[] g 0 cap 0 l.length l.toArray w
    (enters_of Try.func40 (by kernel_rfl) rfl) (cmpP_lays g 0 _ w) h.holds h.lt (Nat.zero_le _) (by simp) (by simpa using hl)
  have e : (ltOf cmpP : PR → PR → Bool) = ltP := rfl
  rw [e, List.size_toArray] at this
  simpa using this

set_option maxHeartbeats 1000000 in
theorem stable_any (g cap : Nat) (l : List PR) (w : World) (h : RowP g l w) (hl : l.length < 20) :
    Calls Try.prog 48 #[.slice (some ⟨g, 0, none⟩) l.length cap, .int .i64 (l.length : Int), .func (.func 40) #[] #[]] w fun e w' =>
      e = .returned (.tuple #[]) ∧ ∃ m os, w' = sortWorldK encP 4 w g 0 m (insertionSort ltP l.toArray 0 l.toArray.size) os := by
  have HI := Lib.hid (insert_any g cap l w h (by omega))
  have hz : ¬ ((20 : Int) ≤ (l.length : Int)) := by omega
  have hz2 : ¬ ((20 : Int) < (l.length : Int)) := by omega
  clear h
  generalize insertionSort ltP l.toArray 0 l.toArray.size = r at *
  go_enter Try.func48, Try.ntmps48
  go_wp2
  refine wp_loop_rounds 1 ?_
  rw [rounds_succ]
  go_wp2_with (go_at_call 52; refine HI.out.mono ?_)
  rintro e w2 ⟨rfl, m, os, rfl⟩
  go_wp2
  refine wp_loop_rounds 1 ?_
  rw [rounds_succ]
  go_wp2
  go_end0
  exact ⟨rfl, m, os, rfl⟩

theorem sortStable_any (g cap : Nat) (l : List PR) (w : World) (h : RowP g l w) (hl : l.length < 20) :
    Calls Try.prog 39 #[.slice (some ⟨g, 0, none⟩) l.length cap, .func (.func 40) #[] #[]] w fun e w' =>
      e = .returned (.tuple #[]) ∧ ∃ m os, w' = sortWorldK encP 4 w g 0 m (insertionSort ltP l.toArray 0 l.toArray.size) os := by
  have HI := Lib.hid (stable_any g cap l w h hl)
  clear h
  generalize insertionSort ltP l.toArray 0 l.toArray.size = r at *
  go_enter Try.func39, Try.ntmps39
  go_wp2_with (go_at_call 48; refine HI.out.mono ?_)
  rintro e w2 ⟨rfl, m, os, rfl⟩
  go_wp2
  go_end0
  exact ⟨rfl, m, os, rfl⟩

theorem sortNone (a : Option Addr) (c : Nat) (w : World) :
    Calls Try.prog 39 #[.slice a 0 c, .func (.func 40) #[] #[]] w fun e w' => e = .returned (.tuple #[]) ∧ w = w' := by
  have hI : ∀ W, Calls Try.prog 52 #[.slice a 0 c, .int .i64 0, .int .i64 0, .func (.func 40) #[] #[]] W fun e w' => e = .returned (.tuple #[]) ∧ W = w' := by
    intro W
    go_enter Try.func52, Try.ntmps52
    go_wp2
    refine wp_loop_rounds 1 ?_
    rw [rounds_succ]
    go_wp2
    go_end0
    exact ⟨rfl, rfl⟩
  have hS : ∀ W, Calls Try.prog 48 #[.slice a 0 c, .int .i64 0, .func (.func 40) #[] #[]] W fun e w' => e = .returned (.tuple #[]) ∧ W = w' := by
    intro W
    go_enter Try.func48, Try.ntmps48
    go_wp2
    refine wp_loop_rounds 1 ?_
    rw [rounds_succ]
    go_wp2_with (go_at_call 52; refine (hI _).mono ?_)
    rintro e w2 ⟨rfl, rfl⟩
    go_wp2
    refine wp_loop_rounds 1 ?_
    rw [rounds_succ]
    go_wp2
    go_end0
    exact ⟨rfl, rfl⟩
  go_enter Try.func39, Try.ntmps39
  go_wp2_with (go_at_call 48; refine (hS _).mono ?_)
  rintro e w2 ⟨rfl, rfl⟩
  go_wp2
  go_end0
  exact ⟨rfl, rfl⟩
end Go.Proofs.Ytmbaolcdjgilpaa
