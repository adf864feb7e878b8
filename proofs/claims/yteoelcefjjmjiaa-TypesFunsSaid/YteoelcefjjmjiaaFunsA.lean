/- TypesFuns: what its last statement keeps; its calls. -/
import Derived.Test.YteoelcefjjmjiaaTyPrts
import Derived.Test.YteoelcefjjmjiaaTyBox
import Derived.Test.YteoelcefjjmjiaaMakeAllN
import Derived.Test.YteoelcefjjmjiaaRegInv
namespace Go.Proofs.Yteoelcefjjmjiaa
open Go.RowKit
attribute [local go_sem] Oper.semAt_some

def nUnit : ByteArray := ⟨#[85, 110, 105, 116]⟩
set_option maxRecDepth 100000 in
set_option maxHeartbeats 1000000 in
theorem fun_nil (w : World) : Calls Try.prog 24 #[.slice none 0 0] w fun e w' => (∃ a c, e = .returned (.agg #[.int .i64 2, .string ⟨#[85, 110, 105, 116]⟩, .slice a 0 c])) ∧ Below w.heap.size w w' := by
  have HC := Lib.hid (fun o : Obj => tcon_any nUnit [] (.slice none 0 0) (w.alloc o) (by simp [tsizes]) (TysAt.nil _ _ _))
  have HB := Lib.hid (fun o : Obj => (Below.refl _ w).alloc (Nat.le_refl _) o)
  simp only [tyV, nUnit, T.kind, T.name, List.length_nil] at HC
  go_enter Try.func24, Try.ntmps24
  go_wp2_with (go_at_call 23; refine (HC.out _).mono ?_)
  rintro e w2 ⟨⟨a, c, rfl, h1⟩, h2⟩
  have hz := (h2.block w.heap.size (by simp)).trans (alloc_new w _)
  obtain ⟨z0, z1, z2⟩ := three_cells hz
  have u0 := Lib.frozen_of_heap hz 0
  have u1 := Lib.frozen_of_heap hz 1
  have u2 := Lib.frozen_of_heap hz 2
  have HZ := Lib.hid hz
  have HB2 := Lib.hid ((HB.out _).trans (h2.mono (by simp)))
  clear h1 h2 hz HC
  go_wp2
  have hc := three_cells (set3_block HZ.out (.int .i64 2) (.string ⟨#[85, 110, 105, 116]⟩) (.slice a 0 c))
  exact bodyPost_ret (v := .agg #[.int .i64 2, .string ⟨#[85, 110, 105, 116]⟩, .slice a 0 c]) (by simp [results, Try.results24, go_sem, hc.1, hc.2.1, hc.2.2]) rfl ⟨⟨a, c, rfl⟩, below_set3 HB2.out (Nat.le_refl _) _ _ _⟩
/-- A row's head. -/
theorem TysAt.init {w : World} {l : List T} {x : T} {a : Option Addr} {c : Nat} (h : TysAt w (.slice a (l.length + 1) c) (l ++ [x])) : TysAt w (.slice a l.length c) l := by
  rcases h with ⟨h, _⟩ | ⟨g, cap, cs, fz, y, n, z, e, h1, h2, h3, h4⟩
  · exact absurd h (by simp)
  · simp only [Value.slice.injEq] at e
    obtain ⟨rfl, _, rfl⟩ := e
    have hl : (l ++ [x]).length = l.length + 1 := by simp
    refine .inr ⟨g, c, cs, fz, y, n, z, rfl, h1, by omega, fun i hi => h3 i (by omega), fun i hi => ?_⟩
    have := h4 i (by omega)
    rwa [List.getElem_append_left hi] at this
/-- The last of a row lies at its end. -/
def LastC (g : Nat) (n : Nat) (x : T) (a : Option Addr) (c : Nat) (w : World) : Prop :=
  (w.cell? ⟨g, n * 3, none⟩ = some (.int .i64 x.kind) ∧ w.cell? ⟨g, n * 3 + 1, none⟩ = some (.string x.name) ∧ w.cell? ⟨g, n * 3 + 2, none⟩ = some (.slice a x.kids.length c)) ∧ TysAt w (.slice a x.kids.length c) x.kids ∧ g < w.heap.size
theorem LastC.below {g n : Nat} {x : T} {a : Option Addr} {c : Nat} {w W : World} (h : LastC g n x a c w) (hb : Below w.heap.size w W) : LastC g n x a c W := by
  obtain ⟨⟨h1, h2, h3⟩, h4, h5⟩ := h
  exact ⟨⟨(hb.cell (p := ⟨g, n * 3, none⟩) h5).trans h1, (hb.cell (p := ⟨g, n * 3 + 1, none⟩) h5).trans h2, (hb.cell (p := ⟨g, n * 3 + 2, none⟩) h5).trans h3⟩, h4.keep (KeepT.of_below hb), Nat.lt_of_lt_of_le h5 hb.size⟩
theorem last_of {w : World} {l : List T} {x : T} {a : Option Addr} {c : Nat} (h : TysAt w (.slice a (l.length + 1) c) (l ++ [x])) : ∃ g pa pc, a = some ⟨g, 0, none⟩ ∧ l.length + 1 ≤ c ∧ LastC g l.length x pa pc w := by
  obtain ⟨g, cap, e, hg, hc, hr⟩ := h.row (by simp)
  obtain ⟨pa, pc, c0, c1, c2, ht⟩ := hr l.length (by simp)
  simp only [Value.slice.injEq] at e
  obtain ⟨rfl, _, rfl⟩ := e
  have ex : (l ++ [x])[l.length]'(by simp) = x := by simp
  rw [ex] at c0 c1 c2 ht
  exact ⟨g, pa, pc, rfl, by simpa using hc, ⟨c0, c1, c2⟩, ht, hg⟩
def nilV : Value := .slice none 0 0
/-- What the last statement keeps. -/
def FT (w : World) (g b11 b13 b14 : Nat) (l : List T) (x f : T) (c : Nat) (xa fa za : Option Addr) (xc fc zc : Nat) (ua : Option Addr) (uc : Nat) (pa : Option Addr) (pc : Nat) (V : World) : Prop :=
  (TysAt V (.slice (some ⟨g, 0, none⟩) (l.length + 1) c) (l ++ [x]) ∧ LastC g l.length x xa xc V) ∧ (BoxT b11 f fa fc V ∧ BoxT b13 x za zc V) ∧ (V.heap[b14]? = some (.cells #[.int .i64 2, .string ⟨#[85, 110, 105, 116]⟩, .slice ua 0 uc] 29 (0, 0)) ∧ TysAt V (.slice pa l.length pc) l) ∧ Below w.heap.size w V
theorem FT.below {w : World} {g b11 b13 b14 : Nat} {l : List T} {x f : T} {c : Nat} {xa fa za : Option Addr} {xc fc zc : Nat} {ua : Option Addr} {uc : Nat} {pa : Option Addr} {pc : Nat} {X Y : World} (h : FT w g b11 b13 b14 l x f c xa fa za xc fc zc ua uc pa pc X) (hb : Below X.heap.size X Y) : FT w g b11 b13 b14 l x f c xa fa za xc fc zc ua uc pa pc Y :=
  ⟨⟨h.1.1.keep (KeepT.of_below hb), h.1.2.below hb⟩, ⟨h.2.1.1.below hb, h.2.1.2.below hb⟩, ⟨(hb.block _ (Array.getElem?_eq_some_iff.1 h.2.2.1.1).1).trans h.2.2.1.1, h.2.2.1.2.keep (KeepT.of_below hb)⟩, h.2.2.2.trans (hb.mono h.2.2.2.size)⟩
theorem FT.cells {w : World} {g b11 b13 b14 : Nat} {l : List T} {x f : T} {c : Nat} {xa fa za : Option Addr} {xc fc zc : Nat} {ua : Option Addr} {uc : Nat} {pa : Option Addr} {pc : Nat} {X : World} (h : FT w g b11 b13 b14 l x f c xa fa za xc fc zc ua uc pa pc X) :
    ((X.cell? ⟨b11, 0, none⟩ = some (.int .i64 f.kind) ∧ X.cell? ⟨b11, 1, none⟩ = some (.string f.name) ∧ X.cell? ⟨b11, 2, none⟩ = some (.slice fa f.kids.length fc)) ∧ (X.cell? ⟨b13, 0, none⟩ = some (.int .i64 x.kind) ∧ X.cell? ⟨b13, 1, none⟩ = some (.string x.name) ∧ X.cell? ⟨b13, 2, none⟩ = some (.slice za x.kids.length zc))) ∧
    ((X.cell? ⟨b14, 0, none⟩ = some (.int .i64 2) ∧ X.cell? ⟨b14, 1, none⟩ = some (.string ⟨#[85, 110, 105, 116]⟩)) ∧ (X.cell? ⟨g, l.length * 3, none⟩ = some (.int .i64 x.kind) ∧ X.cell? ⟨g, l.length * 3 + 1, none⟩ = some (.string x.name) ∧ X.cell? ⟨g, l.length * 3 + 2, none⟩ = some (.slice xa x.kids.length xc))) := by
  obtain ⟨u0, u1, _⟩ := three_cells h.2.2.1.1
  exact ⟨⟨h.2.1.1.cells, h.2.1.2.cells⟩, ⟨u0, u1⟩, h.1.2.1⟩
theorem fits_small {t : T} (h : tsize t ≤ 1000000000) : Fits t := by
  refine T.by_kids (P := fun t => tsize t ≤ 1000000000 → Fits t) (fun t H h => ?_) t h
  obtain ⟨h1, h2⟩ := kids_small h
  exact .mk t (by omega) fun k hk => H k hk (h2 k hk)
theorem same_ret {t : T} (ht : tsize t ≤ 1000000000) {a b : Option Addr} {c d : Nat} {w : World} (h : TysAt w (.slice a t.kids.length c) t.kids) (h' : TysAt w (.slice b t.kids.length d) t.kids) :
    Calls Try.prog 21 #[.agg #[.int .i64 t.kind, .string t.name, .slice a t.kids.length c], .agg #[.int .i64 t.kind, .string t.name, .slice b t.kids.length d]] w fun e Y => e = .returned (.bool true) ∧ Below w.heap.size w Y := by
  have := same_any (t := t) (t' := t) (w := w) (fits_small ht) h h'
  rwa [show (cmpT t t == 0) = true by simp [(cmp_zero t t).2 rfl]] at this
theorem sames_ret {l : List T} (hl : l.length ≤ 1000000) (ht : ∀ t ∈ l, tsize t ≤ 1000000000) {a b : Option Addr} {c d : Nat} {w : World} (h : TysAt w (.slice a l.length c) l) (h' : TysAt w (.slice b l.length d) l) :
    Calls Try.prog 17 #[.slice a l.length c, .slice b l.length d] w fun e Y => e = .returned (.bool true) ∧ Below w.heap.size w Y := by
  have := sameTypes_of l l (fun t h => sameType_ok (fits_small (ht t h))) a b c d w h h' (by omega)
  rwa [eqB_true rfl] at this
theorem size_ret {t : T} {n : Nat} (ht : tsize t ≤ 1000000000) (e : tsize t = n) {a : Option Addr} {c : Nat} {w : World} (h : TysAt w (.slice a t.kids.length c) t.kids) :
    Calls Try.prog 15 #[.agg #[.int .i64 t.kind, .string t.name, .slice a t.kids.length c]] w fun e Y => e = .returned (.int .i64 (n : Int)) ∧ Below w.heap.size w Y := by
  subst e; exact size_any ht h
theorem fun_one {x : T} (hx : tsize x ≤ 1000000) {g : Nat} {w : World} (h : TysAt w (.slice (some ⟨g, 0, none⟩) 1 1) [x]) :
    Calls Try.prog 24 #[.slice (some ⟨g, 0, none⟩) 1 1] w fun e Y => (∃ za zc, e = .returned (.agg #[.int .i64 x.kind, .string x.name, .slice za x.kids.length zc]) ∧ TysAt Y (.slice za x.kids.length zc) x.kids) ∧ Below w.heap.size w Y := by
  refine (tfun_any [] x _ w (by simp [tsizes]; omega) h).mono ?_
  rintro e Y ⟨⟨a, c, rfl, hin⟩, hb⟩
  exact ⟨⟨a, c, rfl, hin.tys⟩, hb⟩
end Go.Proofs.Yteoelcefjjmjiaa
