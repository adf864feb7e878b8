/- The chapter's example holds; rows that are written out. -/
import Derived.Test.YtmbaolcdjgilpaaSbSize
namespace Go.Proofs.Ytmbaolcdjgilpaa
open Go.RowKit Go.Sort Go.Lib
attribute [local go_sem] Oper.semAt_some

theorem rowP_one {w : World} {b : Nat} (x : PR) (h : w.heap[b]? = some (.cells #[.string x.n, .int .i64 x.t.kind, .string x.t.name, .slice x.a x.t.kids.length x.c] 58 (0, 0))) : RowP b [x] w := by
  refine ⟨_, h, by simp, fun i hi => ?_⟩
  obtain rfl : i = 0 := by simpa using hi
  exact ⟨rfl, rfl, rfl, rfl⟩
theorem rowP_two {w : World} {b : Nat} (x y : PR) (h : w.heap[b]? = some (.cells #[.string x.n, .int .i64 x.t.kind, .string x.t.name, .slice x.a x.t.kids.length x.c, .string y.n, .int .i64 y.t.kind, .string y.t.name, .slice y.a y.t.kids.length y.c] 58 (0, 0))) : RowP b [x, y] w := by
  refine ⟨_, h, by simp, fun i hi => ?_⟩
  match i, hi with
  | 0, _ => exact ⟨rfl, rfl, rfl, rfl⟩
  | 1, _ => exact ⟨rfl, rfl, rfl, rfl⟩
  | n + 2, hi => simp at hi; omega
theorem SubAt.shape {v : Value} {d : List PR} {w : World} (h : SubAt v d w) : ∃ a c, v = .slice a d.length c := by
  rcases h.1.1 with ⟨rfl, a, c, rfl, _⟩ | ⟨g, cap, rfl, _⟩
  · exact ⟨a, c, rfl⟩
  · exact ⟨_, _, rfl⟩
set_option maxHeartbeats 1000000 in
theorem len_any (a : Option Addr) (n c : Nat) (w : World) :
    Calls Try.prog 23 #[.agg #[.slice a n c]] w fun e w' => e = .returned (.int .i64 (n : Int)) ∧ Below w.heap.size w w' := by
  have HB := Lib.hid (fun o => (Below.refl _ w).alloc (Nat.le_refl _) o)
  go_enter Try.func23, Try.ntmps23
  go_wp2
  go_ret
  exact ⟨rfl, HB.out _⟩
theorem made_ty {d l : List PR} (h : Made d l) : ∀ t, app l t = app d t := app_congr h.same
theorem fits_small {t : T} (h : tsize t ≤ 1000000000) : Fits t := by
  refine T.by_kids (P := fun t => tsize t ≤ 1000000000 → Fits t) (fun t H ht => ?_) t h
  obtain ⟨h1, h2⟩ := kids_small ht
  exact .mk t (by omega) (fun k hk => H k hk (h2 k hk))
theorem ty_cons (n : ByteArray) (x : PR) (l : List PR) : ty n (x :: l) = if x.n = n then x.t else ty n l := by
  unfold ty; rw [lk_cons]
  by_cases h : x.n = n
  · rw [if_pos h, if_pos h]; rfl
  · rw [if_neg h, if_neg h]
theorem ty_nil (n : ByteArray) : ty n [] = .var n := rfl
theorem leaf_at (t : T) (h : t.kids = []) (w : World) (a : Option Addr) (c : Nat) : TysAt w (.slice a t.kids.length c) t.kids := by rw [h]; exact TysAt.nil w a c

def tA : T := .var ⟨#[97]⟩
def tB : T := .var ⟨#[98]⟩
def tInt : T := .con ⟨#[73, 110, 116]⟩ []
def pInt : PR := ⟨⟨#[97]⟩, tInt, none, 0⟩
theorem app_int : app [pInt] tA = tInt := by rw [tA, app, ty_cons]; exact if_pos rfl
set_option maxHeartbeats 2000000 in
theorem first_any (w : World) : Calls Try.prog 7 #[] w fun e w' => e = .returned (.bool true) ∧ Below w.heap.size w w' := by
  have hn := alloc_new w (.cells #[.string ⟨#[97]⟩, .int .i64 2, .string ⟨#[73, 110, 116]⟩, .slice none 0 0] 58)
  have HO := Lib.hid (of_any (v := .slice (some ⟨w.heap.size, 0, none⟩) 1 1) (d := [pInt]) (w := w.alloc (.cells #[.string ⟨#[97]⟩, .int .i64 2, .string ⟨#[73, 110, 116]⟩, .slice none 0 0] 58))
    (.inr ⟨by simp, w.heap.size, 1, rfl, rowP_one pInt hn⟩) (fun x hx => by obtain rfl := List.mem_singleton.1 hx; exact leaf_at tInt rfl _ _ _) (fun x hx => by obtain rfl := List.mem_singleton.1 hx; exact fits_small (by decide)) (fun x hx => by obtain rfl := List.mem_singleton.1 hx; exact (by decide : tsize tInt ≤ 1000000000)) (by simp))
  have HB := Lib.hid (fun o => (Below.refl _ w).alloc (Nat.le_refl _) o)
  clear hn
  go_enter Try.func7, Try.ntmps7
  go_wp2_with (go_at_call 11; refine HO.out.mono ?_)
  rintro e w1 ⟨⟨v, l, rfl, hs, hm⟩, hb1⟩
  obtain ⟨va, vc, rfl⟩ := hs.shape
  have hl1 : l.length = 1 := by
    have h1 := hm.len
    rcases Nat.lt_or_ge l.length 1 with h | h
    · have hl0 : l = [] := List.length_eq_zero_iff.1 (by omega)
      have := hm.same ⟨#[97]⟩
      rw [hl0, ty_nil, ty_cons] at this
      simp [pInt, tInt] at this
    · simp at h1; omega
  rw [hl1] at hs ⊢
  have HB1 := Lib.hid ((HB.out (.cells #[.string ⟨#[97]⟩, .int .i64 2, .string ⟨#[73, 110, 116]⟩, .slice none 0 0] 58)).trans (hb1.mono (by simp)))
  have HA := Lib.hid (fun o => apply_any (d := l) (t := tA) (s := .slice va 1 vc) (v := .slice none 0 0) (w := w1.alloc o) (by omega) (fun x hx => by obtain ⟨y, hy, _, e⟩ := hm.sub x hx; obtain rfl := List.mem_singleton.1 hy; rw [e]; decide) (by decide) (hs.below ((Below.refl _ w1).alloc (Nat.le_refl _) o)) (TysAt.nil _ _ _))
  rw [made_ty hm, app_int] at HA
  simp only [tyV, show tA.kind = 1 from rfl, show tA.name = ⟨#[97]⟩ from rfl] at HA
  clear hb1 hs hm HO HB
  go_wp2_with (go_at_call 16; refine (HA.out _).mono ?_)
  rintro e w2 ⟨⟨a2, c2, rfl, _⟩, hb2⟩
  have b2 := (hb2.block w1.heap.size (by simp)).trans (alloc_new w1 _)
  have y0 : w2.cell? ⟨w1.heap.size, 0, none⟩ = some (.slice va 1 vc) := by rw [Lib.cell_of_heap b2]; rfl
  have l2 := (Array.getElem?_eq_some_iff.1 b2).1
  have HB2 := Lib.hid ((HB1.out.alloc HB1.out.size (.cells #[.slice va 1 vc] 39)).trans (hb2.mono (by simp; have := HB1.out.size; omega)))
  have HL := Lib.hid (fun W => len_any va 1 vc W)
  clear hb2 b2 HA
  simp only [tyV, show tInt.kind = 2 from rfl, show tInt.name = ⟨#[73, 110, 116]⟩ from rfl, show tInt.kids.length = 0 from rfl]
  go_wp2_with (go_at_call 23; refine (HL.out _).mono ?_)
  rintro e w3 ⟨rfl, hb3⟩
  have b3 := (hb3.block w2.heap.size (by simp)).trans (alloc_new w2 _)
  obtain ⟨_, z1, _⟩ := three_cells b3
  have HB3 := Lib.hid ((HB2.out.alloc HB2.out.size (.cells #[.int .i64 2, .string ⟨#[73, 110, 116]⟩, .slice a2 0 c2] 34)).trans (hb3.mono (by simp; have := HB2.out.size; omega)))
  clear hb3 b3
  go_wp2
  go_ret
  exact ⟨rfl, HB3.out⟩
end Go.Proofs.Ytmbaolcdjgilpaa
