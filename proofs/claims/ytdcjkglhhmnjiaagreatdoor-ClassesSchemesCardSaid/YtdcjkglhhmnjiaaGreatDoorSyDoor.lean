/- The listed errors, as the small memory wants them. -/
import Derived.Test.YtdcjkglhhmnjiaaGreatDoorPlainRow
import Derived.Test.YtdcjkglhhmnjiaaGreatDoorSyR
import Derived.ProofKit
import Derived.LaidMore
import Derived.OpenShut
import Derived.ChangeOld
import Derived.Stop.Joined
import Derived.Stop.LaidTwo
import Derived.Carry
namespace Go.Proofs.YtdcjkglhhmnjiaaGreatDoor
open Go.ChangeShapes Go.WideShapes Go.ChangeAt Go.RowKit
open Go.Proofs.YtdcjkglhhmnjiaaGreatDoor.Sx

theorem cellsStr : Tryz.prog.cellsOf 9 = 1 := by kernel_rfl
theorem cellsErrStr : Tryz.prog.cellsOf 309 = 1 := by kernel_rfl
def errName : String := "*errors.errorString"
theorem star : errName = "*" ++ "errors.errorString" := by decide
theorem rowErr (u : TypeId) (h : Tryz.prog.typeName? 3 u = some errName) : u = 291 :=
  typeName_ptr_named (nm := "errors.errorString") (by rw [← star]; kernel_rfl) (by kernel_rfl) (by decide) u (by rw [← star]; exact h)
/-- A listed error, its rows among what is never written. -/
def SenIn (W : World) (tp : TypeId) (g : Nat) (text : List UInt8) (x : Sen) : Prop :=
  x.g = g ∧ (∃ cs, W.heap[g]? = some (.cells cs x.elem (0, 0)) ∧ cs[0]? = some (.iface tp (.pointer (some x.a)))) ∧ (∃ s : ByteArray, W.cell? x.a = some (.string s) ∧ s.data.toList = text) ∧ ∃ c t, W.heap[x.a.block]? = some (.cells c t (0, 0))
theorem laid_sen {P : Program} {n nm : String} {text : List UInt8} {r : List (String × DataW Unit)} {W : World} {g : Nat} {ti tp te ts : TypeId} {ms : Array (String × TypeId)} {f : Field}
    (h : laidMet P ((n, .iface nm (.ptr (.agg [.lit (.string text)]))) :: r) W)
    (hg : P.globalNamed n = some g) (ht : (P.globals[g]?).map (·.type) = some ti) (hi : P.underlying ti = some (.interface ms)) (hrow : ∀ u, P.typeName? 3 u = some nm → u = tp)
    (hp : P.underlying tp = some (.pointer te)) (he : P.underlying te = some (.struct #[f])) (hft : f.type = ts) (hfo : f.offset = 0) (hs : P.underlying ts = some .string) (hc : P.cellsOf te = 1) (hcs : P.cellsOf ts = 1) :
    ∃ x, SenIn W tp g text x := by
  obtain ⟨ps, ⟨g0, t0, cs0, f0, p0, q0, hg0, ht0, hv0, hd0, _, e0⟩, _, hrows⟩ := h
  obtain rfl := Option.some.inj (hg.symm.trans hg0)
  obtain rfl := Option.some.inj (ht.symm.trans ht0)
  subst e0
  obtain ⟨l0⟩ := cs0
  have ok0 : ∀ u v, l0 = [.iface u v] → Value.okWide P W .any 0 u v := fun u v e => by
    subst e
    exact (hrows g 0 (by simp [MemPlace.row])).2 u v (by simpa using World.var?_cell hg0 hv0 0)
  obtain ⟨a0, s0, rfl, hc0, hs0, hz0, rfl⟩ := errorString_of_trod hi hrow hp he hft hfo hs hc hcs hd0 ok0
  obtain ⟨c, t, hct⟩ := (hrows g 0 (by simp [MemPlace.row])).1
  have hcell : W.cell? ⟨g, 0, none⟩ = some (.iface tp (.pointer (some a0))) := by simpa using World.var?_cell hg0 hv0 0
  refine ⟨⟨g, t, a0⟩, rfl, ⟨c, hct, ?_⟩, ⟨s0, hc0, hs0⟩, (hrows a0.block a0.off (by simp [MemPlace.row])).1⟩
  rw [cell_of hct] at hcell; exact hcell
theorem sen_in {r : List (String × DataW Unit)} {n : String} {text : List UInt8} {W : World} {g : Nat} (h : laidMet Tryz.prog ((n, .iface errName (.ptr (.agg [.lit (.string text)]))) :: r) W)
    (hg : Tryz.prog.globalNamed n = some g) (tg : (Tryz.prog.globals[g]?).map (·.type) = some 51) : (∃ x, SenIn W 291 g text x) ∧ laidMet Tryz.prog r W :=
  ⟨laid_sen h hg tg Tryz.underlying51 rowErr Tryz.underlying291 Tryz.underlying309 rfl rfl Tryz.underlying9 cellsErrStr cellsStr, h.tail⟩

/-- the listed errors, one by one: as the small memory wants them -/
def SenAll (W : World) (tp : TypeId) (gl : Nat) : List (List UInt8 × Sen) → Prop
  | [] => True
  | x :: l => (SenIn W tp x.2.g x.1 x.2 ∧ x.2.g < gl) ∧ SenAll W tp gl l
theorem SenAll.mem {W : World} {tp : TypeId} {gl : Nat} : ∀ {L : List (List UInt8 × Sen)}, SenAll W tp gl L → ∀ x ∈ L, SenIn W tp x.2.g x.1 x.2 ∧ x.2.g < gl
  | _ :: _, h, x, hx => by
    rcases List.mem_cons.1 hx with rfl | hx
    · exact h.1
    · exact SenAll.mem h.2 x hx
theorem SenIn.lt {W : World} {tp : TypeId} {g : Nat} {t : List UInt8} {x : Sen} (h : SenIn W tp g t x) : g < W.heap.size := by
  obtain ⟨_, ⟨cs, h1, _⟩, _⟩ := h
  exact (Array.getElem?_eq_some_iff.1 h1).1
theorem lies_of {W : World} {gl : Nat} {tp : TypeId} (L : List (List UInt8 × Sen)) (hs : gl ≤ W.heap.size) (hg : gl ≤ 100) (hl : L.length ≤ 100) (h0 : SenAll W tp gl L) (hn : (L.map (·.1)).Nodup) : Lies gl tp (L.map (·.2)) W := by
  have h := fun x hx => h0.mem x hx
  refine ⟨hs, hg, by simpa using hl, fun y hy => ?_, fun y hy => ?_, fun i j x y hi hj hne e => ?_⟩
  · obtain ⟨x, hx, rfl⟩ := List.mem_map.1 hy
    obtain ⟨⟨_, h1, _⟩, h2⟩ := h x hx
    exact ⟨h2, h1⟩
  · obtain ⟨x, hx, rfl⟩ := List.mem_map.1 hy
    obtain ⟨⟨_, _, ⟨s, h1, _⟩, h2⟩, _⟩ := h x hx
    refine ⟨?_, h2⟩
    cases hsp : x.2.a.spot with
    | none => rfl
    | some k =>
      obtain ⟨c, t, h3⟩ := h2
      unfold World.cell? at h1
      rw [h3] at h1
      simp [hsp] at h1
  · simp only [List.getElem?_map, Option.map_eq_some_iff] at hi hj
    obtain ⟨u, hu, rfl⟩ := hi
    obtain ⟨v, hv, rfl⟩ := hj
    obtain ⟨⟨_, _, ⟨s, h1, h2⟩, _⟩, _⟩ := h u (List.mem_of_getElem? hu)
    obtain ⟨⟨_, _, ⟨s', h3, h4⟩, _⟩, _⟩ := h v (List.mem_of_getElem? hv)
    rw [e, h3] at h1
    cases h1
    have ht : u.1 = v.1 := h2.symm.trans h4
    obtain ⟨hi, eu⟩ := List.getElem?_eq_some_iff.1 hu
    obtain ⟨hj, ev⟩ := List.getElem?_eq_some_iff.1 hv
    have hp := List.pairwise_iff_getElem.1 hn
    rcases Nat.lt_trichotomy i j with hlt | hlt | hlt
    · exact hp i j (by simpa using hi) (by simpa using hj) hlt (by simp [eu, ev, ht])
    · exact hne hlt
    · exact hp j i (by simpa using hj) (by simpa using hi) hlt (by simp [eu, ev, ht])

theorem good : Sx.Good Tryz.prog := Sx.good_of _ (by kernel_rfl) (by kernel_rfl) (by kernel_rfl)
theorem mixed : Tryz.prog.follows .mixedOrders = true := by kernel_rfl
end Go.Proofs.YtdcjkglhhmnjiaaGreatDoor
