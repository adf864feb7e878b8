/- LexerSays: called with any slice of bytes and any text, in any memory in which the program's own errors lie as its text lays them, the law returns true, and the slice reads as it did. Condition: the listed errors are tied to the program's text by the card. -/
import Derived.Test.YtnlpilceooncmaaDoorSays
import Derived.Test.YtnlpilceooncmaaDoorSeeRow
import Derived.Test.YtnlpilceooncmaaDoorTie
import Derived.Test.YtnlpilceooncmaaDoorCards
import Derived.SevenTiedAt
namespace Go.Proofs.YtnlpilceooncmaaDoor
open Go.ChangeShapes Go.WideShapes Go.ChangeAt Go.RowKit

/-- A slice of bytes that came in is no longer than its capacity. -/
theorem opened_cap_says {H : Type} {enc : TypeId × Value → H} {W : World} {a0 : Option Addr} {len cap : Nat} {d0 : DataW H} {p : List MemPlace}
    (h0 : DataW.Trod enc Tryd.prog W 0 (fun _ => true) true 22 (.slice a0 len cap) d0 p) : len ≤ cap := by
  obtain ⟨fuel, hf⟩ := h0
  rcases open_ints Tryd.underlying22 Tryd.underlying5 (by kernel_rfl) hf with ⟨hcs, _⟩ | ⟨x, l, c, zs, hcs, _, hl, _⟩
  · simp [Value.cells] at hcs
    obtain ⟨rfl, rfl, rfl⟩ := hcs
    exact Nat.le_refl _
  · simp [Value.cells] at hcs
    obtain ⟨rfl, rfl, rfl⟩ := hcs
    exact hl

set_option maxHeartbeats 1000000 in
/-- Too many bytes, or too long a text: nothing is asked. -/
theorem says_big (a : Option Addr) (len cap : Nat) (t : ByteArray) (hb : 500 < len ∨ 80 < t.size) (aL : Addr) (w : World) (hE : w.cell? ⟨0, 0, none⟩ = some (errL aL)) :
    Calls Tryd.prog 3 #[.slice a len cap, .string t] w fun e w' => e = .returned (.bool true) ∧ Below w.heap.size w w' := by
  have hg := World.block_lt_of_cell? _ _ hE
  have HE := Lib.hid (fun W (h : Below w.heap.size w W) => (h.cell (p := ⟨0, 0, none⟩) hg).trans hE); clear hE
  have HB0 := Lib.hid (fun o : Obj => (Below.refl w.heap.size w).alloc (Nat.le_refl _) o)
  by_cases h5 : 500 < len
  · have hd : decide ((500 : Int) < (len : Int)) = true := by simp; omega
    go_enter Tryd.func3, Tryd.ntmps3
    go_wp2_with (go_at_call 9; refine (first_any aL _ (HE.out _ (HB0.out _))).mono ?_; rintro e w1 ⟨rfl, hb1⟩; obtain ⟨hc, hf⟩ := bcell hb1; have HB1 := Lib.hid ((HB0.out _).trans (hb1.mono (by simp))); clear hb1)
    exact bodyPost_ret (v := .bool true) (by simp [results, Tryd.results3, go_sem, hc]) rfl ⟨rfl, HB1.out.setCell (p := ⟨w.heap.size, 0, none⟩) (Nat.le_refl _) _⟩
  · have h8 : 80 < t.size := by omega
    have hd5 : decide ((500 : Int) < (len : Int)) = false := by simp; omega
    have hd : decide ((80 : Int) < (t.size : Int)) = true := by simp; omega
    go_enter Tryd.func3, Tryd.ntmps3
    go_wp2_with (go_at_call 9; refine (first_any aL _ (HE.out _ (HB0.out _))).mono ?_; rintro e w1 ⟨rfl, hb1⟩; obtain ⟨hc, hf⟩ := bcell hb1; have HB1 := Lib.hid ((HB0.out _).trans (hb1.mono (by simp))); clear hb1)
    exact bodyPost_ret (v := .bool true) (by simp [results, Tryd.results3, go_sem, hc]) rfl ⟨rfl, HB1.out.setCell (p := ⟨w.heap.size, 0, none⟩) (Nat.le_refl _) _⟩

theorem says_all (a : Option Addr) (len cap : Nat) (s t : ByteArray) (hcap : len ≤ cap) (aL : Addr) (w : World) (hv : BytesAt w (.slice a len cap) s)
    (hE : w.cell? ⟨0, 0, none⟩ = some (errL aL)) (hA : ErrsAt w) :
    Calls Tryd.prog 3 #[.slice a len cap, .string t] w fun e w' => e = .returned (.bool true) ∧ Below w.heap.size w w' := by
  have hv2 := hv
  obtain ⟨a', cap', hvv, _⟩ := hv2
  simp only [Value.slice.injEq] at hvv
  obtain ⟨rfl, rfl, rfl⟩ := hvv
  by_cases hb : 500 < s.size ∨ 80 < t.size
  · exact says_big a s.size cap t hb aL w hE
  · have hr := runs_some s.data.toList (skipTo s.data.toList 0)
    obtain ⟨ts, hts⟩ : ∃ ts, (lexF s.data.toList (s.data.toList.length + 1) (skipTo s.data.toList 0)).1 = ts := ⟨_, rfl⟩
    obtain ⟨er, her⟩ : ∃ er, (lexF s.data.toList (s.data.toList.length + 1) (skipTo s.data.toList 0)).2 = er := ⟨_, rfl⟩
    rw [hts, her] at hr
    cases er with
    | none => exact says_any a cap s t (by omega) (by omega) hcap aL ts ts none 0 0 false (.inl ⟨rfl, rfl, rfl, rfl, rfl⟩) hr w hv hE hA
    | some k => exact says_any a cap s t (by omega) (by omega) hcap aL ts [] (some k) 101 k true (.inr ⟨k, rfl, rfl, rfl, rfl, rfl⟩) hr w hv hE hA

theorem says_door (os : Os) (args : Array Value) : laidMetH Tryd.prog Rows.lexerSaysRow.laid ((World.doorLaid Tryd.prog 294 os).forCall (fun _ _ => 0) ⟨#[], args, []⟩).memory :=
  laidMetH_of_parts3 (fuel := 8) (laidMet_of_run' 8 (by kernel_rfl) (by kernel_rfl)) (by kernel_rfl) (by kernel_rfl)

set_option maxRecDepth 100000 in
theorem says_lifted (os : Os) (started : os.Started) (H : Type) (enc : TypeId × Value → H) :
    ReturnsInHanded {} Tryd.checked os 3 .any (fun w args => (Rows.lexerSaysSpec.pre enc Tryd.prog Tryd.f3 [] false w args ∧ laidMetH Tryd.prog Rows.lexerSaysRow.laid w) ∧ sizedMet enc Tryd.prog Tryd.f3 (OpenSpec.ofChange Rows.lexerSaysSpec) false w args)
      (Rows.lexerSaysSpec.post enc Tryd.prog Tryd.f3 false true false false) := by
  refine returnsInHanded_of_change_and (C := Tryd.checked) (X := fun w _ => laidMetH Tryd.prog Rows.lexerSaysRow.laid w) (fun _ _ _ hh h => h.of_heap hh) own started (by kernel_rfl) Tryd.func3
    (ChangeSpec.witness_shaped (enc := enc) (C := Tryd.checked) (os := os) (X := fun w _ => laidMetH Tryd.prog Rows.lexerSaysRow.laid w) false (World.doorLaid Tryd.prog 294 os) #[.slice none 0 0, .string ⟨#[]⟩] 8 rfl (World.shaped_of_RefB (by kernel_rfl) (by kernel_rfl)) (by kernel_rfl) (by kernel_rfl) (by kernel_rfl) (says_door os _)) ?_
  intro W base args ds gs before hval0 hW _ _ hL _
  have hval : ∀ (j : Nat) t v, Tryd.f3.params[j]? = some t → args[j]? = some v → Value.okWide Tryd.prog W .any base t v := hval0
  have hW' := hW
  obtain ⟨p, q, hA0, hV, rfl, hfz, hnd⟩ := hW
  have hA : DataW.TrodAll enc Tryd.prog W 0 (fun _ => true) true Tryd.f3.params.toList args.toList ds p := hA0
  rw [Tryd.params3] at hA hval
  obtain ⟨v0, vs0, d0, ds0, p0, q0, hargs, rfl, rfl, h0, r0⟩ := trodAll_cons hA
  obtain ⟨v1, vs1, d1, ds1, p1, q1, rfl, rfl, rfl, h1, r1⟩ := trodAll_cons r0
  obtain ⟨rfl, rfl, rfl⟩ := trodAll_nil r1
  obtain rfl : args = #[v0, v1] := by cases args; simp_all
  obtain ⟨rfl, rfl⟩ := trodVars_none hV
  have k0 := h0
  have k1 := h1
  have lt0 : ∀ x ∈ p0, x.block < W.heap.size := by obtain ⟨m, hm⟩ := k0; exact DataW.trod_lt m _ _ _ hm
  have lt1 : ∀ x ∈ p1, x.block < W.heap.size := by obtain ⟨m, hm⟩ := k1; exact DataW.trod_lt m _ _ _ hm
  obtain ⟨a0, len0, cap0, rfl⟩ := okWide_slice Tryd.underlying22 (hval 0 22 v0 rfl rfl)
  obtain ⟨tx, rfl⟩ := okWide_string Tryd.underlying9 (hval 1 9 v1 rfl rfl)
  obtain ⟨s, hs⟩ := opened h0
  obtain ⟨aL, hE, hErr⟩ := errs_of_laid ((MakeChecks.laidMetH_plain _ _ _ (by kernel_rfl)).mp hL)
  clear hA0 hval0
  refine (says_all _ _ _ s tx (opened_cap_says h0) aL W hs hE hErr).mono fun e W' ⟨he, bel⟩ => ?_
  subst he
  exact ⟨_, rfl, _, _, _, [], _, [], hW', trodAll_mk1 (shut_bool Tryd.underlying4 _), (trodAll_cons_mk (Below.trod laidOut (by kernel_rfl) (of_decide_eq_true (by kernel_rfl)) k0 bel lt0) (trodAll_cons_mk (Below.trod laidOut (by kernel_rfl) (of_decide_eq_true (by kernel_rfl)) k1 bel lt1) trodAll_mk0)), rfl, bel.frame _, fun h => by cases h⟩

theorem says_holds : Rows.LexerSaysSaid :=
  OpenClaim.holds_of_wide 3 Tryd.f3 rfl rfl rfl rfl rfl rfl rfl ⟨rfl, rfl, rfl, rfl, rfl⟩ rfl rfl rfl rfl rfl (by kernel_rfl) Tryd.func3 (by kernel_rfl)
    (of_decide_eq_true (by kernel_rfl)) (by unfold Func.isWrapper; first | (rw [if_pos (by decide +kernel)]; kernel_rfl) | (rw [if_neg (by decide +kernel)]; exact ⟨rfl, rfl⟩))
    (fun os started H enc _ => says_lifted os started H enc)
end Go.Proofs.YtnlpilceooncmaaDoor
