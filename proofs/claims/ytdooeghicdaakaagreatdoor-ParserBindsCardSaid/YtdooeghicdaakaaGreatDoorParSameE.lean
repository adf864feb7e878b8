/- printer.Same, by parts. -/
import Derived.Test.YtdooeghicdaakaaGreatDoorParSame
namespace Go.Proofs.YtdooeghicdaakaaGreatDoor
open Go.RowKit
attribute [local go_sem] Oper.semAt_some

set_option maxRecDepth 100000 in
set_option maxHeartbeats 4000000 in
theorem same_of (x : E) (hsx : simpleE x = true) (H : ∀ k ∈ x.kids, SameEOK k) : SameEOK x := by
  intro y ok ok' p1 p2 p3 q1 q2 q3 c1 c2 c3 d1 d2 d3 w hs h h'
  obtain ⟨ax, bx, hn', _⟩ := simpleE_parts hsx
  have hn : x.kids.length < 1152921504606846976 := by omega
  have HE := Lib.hid (fun (W : World) (k : Below w.heap.size w W) => eqL_of x y hs H ok ok' p1 q1 c1 d1 _ _ _ _ W (h.keep (keep_of_below k)) (h'.keep (keep_of_below k)) hn)
  have HB := Lib.hid (fun o1 o2 : Obj => ((Below.refl w.heap.size w).alloc (Nat.le_refl _) o1).alloc (by simp) o2)
  obtain ⟨ay, by', _⟩ := simpleE_parts hs
  rw [ax, bx, ay, by'] at *
  have hse := sameE_eq x y
  obtain ⟨z1, e1⟩ : ∃ z, (x.kind == y.kind) = z := ⟨_, rfl⟩
  obtain ⟨z2, e2⟩ : ∃ z, (x.name.toList == y.name.toList) = z := ⟨_, rfl⟩
  obtain ⟨z3, e3⟩ : ∃ z, (x.num == y.num) = z := ⟨_, rfl⟩
  obtain ⟨z4, e4⟩ : ∃ z, sameL x.kids y.kids = z := ⟨_, rfl⟩
  rw [e1, e2, e3, e4] at hse
  rw [e4] at HE
  rw [hse]
  clear h h' H hs hsx hse e4 ax bx ay by' hn hn'
  unfold exV
  simp only [List.length_nil]
  have new2' : ∀ o1 o2 : Obj, ((w.alloc o1).alloc o2).heap[w.heap.size]? = some o1 := fun o1 o2 => (Below.heap_alloc _ _ _ (by simp)).trans (World.alloc_heap_new w o1)
  have new2'' : ∀ o1 o2 : Obj, ((w.alloc o1).alloc o2).heap[w.heap.size + 1]? = some o2 := fun o1 o2 => by
    have := World.alloc_heap_new (w.alloc o1) o2
    simpa only [World.size_alloc] using this
  have N1 := Lib.hid new2'; have N2 := Lib.hid new2''
  clear new2' new2''
  cases z1
  · go_enter Tryz.func6, Tryz.ntmps6
    go_wp2
    go_ret
    exact ⟨rfl, HB.out _ _⟩
  · cases z2
    · go_enter Tryz.func6, Tryz.ntmps6
      go_wp2
      go_ret
      exact ⟨rfl, HB.out _ _⟩
    · cases z3
      · go_enter Tryz.func6, Tryz.ntmps6
        go_wp2
        go_ret
        exact ⟨rfl, HB.out _ _⟩
      · cases z4
        all_goals
          go_enter Tryz.func6, Tryz.ntmps6
          go_wp2_with (first
            | (go_at_call 9; refine (HE.out _ (HB.out _ _)).mono ?_; rintro e w2 ⟨rfl, hb⟩; have B2 := Lib.hid ((HB.out _ _).trans (hb.mono (by simp; omega))); have m1 := (hb.block w.heap.size (by simp; omega)).trans (N1.out _ _); have m2 := (hb.block (w.heap.size + 1) (by simp)).trans (N2.out _ _); obtain ⟨s0, s1, s2, s3, s4, s5, s6⟩ := cells7 m1; obtain ⟨t0, t1, t2, t3, t4, t5, t6⟩ := cells7 m2; have M1 := Lib.hid m1; have M2 := Lib.hid m2; clear hb m1 m2)
            | (go_at_call 10; refine (eqAlts0 _ _ _ _ _).mono ?_; rintro e w3 ⟨rfl, hb⟩; have B3 := Lib.hid (B2.out.trans (hb.mono B2.out.size)); have m1 := (hb.block _ (Array.getElem?_eq_some_iff.1 M1.out).1).trans M1.out; have m2 := (hb.block _ (Array.getElem?_eq_some_iff.1 M2.out).1).trans M2.out; clear s0 s1 s2 s3 s4 s5 s6 t0 t1 t2 t3 t4 t5 t6; obtain ⟨s0, s1, s2, s3, s4, s5, s6⟩ := cells7 m1; obtain ⟨t0, t1, t2, t3, t4, t5, t6⟩ := cells7 m2; clear hb m1 m2)
            | (go_at_call 12; refine (sameBinds0 _ _ _ _ _).mono ?_; rintro e w4 ⟨rfl, hb⟩; have B4 := Lib.hid (B3.out.trans (hb.mono B3.out.size)); clear hb))
          go_ret
          first | exact ⟨rfl, B4.out⟩ | exact ⟨rfl, B2.out⟩

theorem kid_lt {x k : E} (h : k ∈ x.kids) : SizeOf.sizeOf k < SizeOf.sizeOf x := by
  cases x with
  | mk a b n m l al bl => have := List.sizeOf_lt_of_mem (show k ∈ l from h); simp; omega
theorem same_ok (n : Nat) : ∀ x : E, SizeOf.sizeOf x < n → simpleE x = true → SameEOK x := by
  induction n with
  | zero => intro x h; omega
  | succ n ih =>
    intro x h hs
    exact same_of x hs (fun k hk => ih k (by have := kid_lt hk; omega) (simpleL_mem (simpleE_parts hs).2.2.2 hk))
/-- printer.Same on two trees without alternatives and definitions: are they the same, but for places? -/
theorem same_any (x y : E) (hx : simpleE x = true) (hy : simpleE y = true) (ok ok' : Nat → Prop) (p1 p2 p3 q1 q2 q3 : Option Addr) (c1 c2 c3 d1 d2 d3 : Nat) (w : World) (h : ExIn ok w x (.slice p1 x.kids.length c1) (.slice p2 x.alts.length c2) (.slice p3 x.binds.length c3)) (h' : ExIn ok' w y (.slice q1 y.kids.length d1) (.slice q2 y.alts.length d2) (.slice q3 y.binds.length d3)) :
    Calls Tryz.prog 6 #[exV x (.slice p1 x.kids.length c1) (.slice p2 x.alts.length c2) (.slice p3 x.binds.length c3), exV y (.slice q1 y.kids.length d1) (.slice q2 y.alts.length d2) (.slice q3 y.binds.length d3)] w fun e w' => e = .returned (.bool (sameE x y)) ∧ Below w.heap.size w w' :=
  same_ok _ x (Nat.lt_succ_self _) hx y ok ok' p1 p2 p3 q1 q2 q3 c1 c2 c3 d1 d2 d3 w hy h h'
end Go.Proofs.YtdooeghicdaakaaGreatDoor
