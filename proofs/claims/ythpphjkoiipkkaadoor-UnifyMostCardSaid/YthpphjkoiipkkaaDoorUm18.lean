/- Merged: UfLaws, UgAllA, UgAll, UgUnify, UgFoundD. -/
import Derived.Test.YthpphjkoiipkkaaDoorUm10
import Derived.Test.YthpphjkoiipkkaaDoorUm16
import Derived.Test.YthpphjkoiipkkaaDoorUm17
import Derived.Test.YthpphjkoiipkkaaDoorUm14
import Derived.Test.YthpphjkoiipkkaaDoorUm11
/- What the program's Unify is to tell, and what the laws of unification share. -/
namespace Go.Proofs.YthpphjkoiipkkaaDoor
open Go.RowKit Go.Sort Go.Lib
attribute [local go_sem] Oper.semAt_some

/-- The two errors of unification lie where they are to. -/
def TwoE (aT aO : Addr) (w : World) : Prop := w.cell? ⟨1, 0, none⟩ = some (errP aT) ∧ w.cell? ⟨0, 0, none⟩ = some (errP aO)
theorem TwoE.below {aT aO : Addr} {w W : World} (h : TwoE aT aO w) (hb : Below w.heap.size w W) : TwoE aT aO W :=
  ⟨(hb.cell (p := ⟨1, 0, none⟩) (World.block_lt_of_cell? _ _ h.1)).trans h.1, (hb.cell (p := ⟨0, 0, none⟩) (World.block_lt_of_cell? _ _ h.2)).trans h.2⟩
/-- What the program's Unify tells. -/
def PRes (aT aO : Addr) (S : USet) (r : UR) (E : Ending) (w' : World) : Prop :=
  match r with
  | .ok τ => ∃ sv l, E = .returned (.tuple #[.agg #[sv], .nilIface]) ∧ SubAt sv l w' ∧ PInv S l τ
  | .bad e => ∃ a c, E = .returned (.tuple #[.agg #[.slice a 0 c], errP (if e then aO else aT)])
/-- The contract of the program's Unify. -/
def PUni : Prop := ∀ (S : USet), S.V.length < 10 → ∀ (a b : T) (r : UR) (pa pb : Option Addr) (ca cb : Nat) (w : World) (aT aO : Addr), Uni T.var a b r → S.O a → S.O b → S.P a b → TwoE aT aO w → TysAt w (.slice pa a.kids.length ca) a.kids → TysAt w (.slice pb b.kids.length cb) b.kids →
  Calls Tryd.prog 10 #[.agg #[.int .i64 a.kind, .string a.name, .slice pa a.kids.length ca], .agg #[.int .i64 b.kind, .string b.name, .slice pb b.kids.length cb]] w fun E w' => PRes aT aO S r E w' ∧ Below w.heap.size w w'
/-- Apply of what was found. -/
theorem pap_ret {S : USet} {τ : Sg} {l : List PR} {t u : T} {sv : Value} {a : Option Addr} {c : Nat} {w : World} (hs : SubAt sv l w) (hp : PInv S l τ) (hi : UInv S τ) (hl : S.V.length < 10) (ht : tsize t ≤ 900000000) (e : sub τ t = u) (hT : TysAt w (.slice a t.kids.length c) t.kids) :
    Calls Tryd.prog 14 #[.agg #[sv], .agg #[.int .i64 t.kind, .string t.name, .slice a t.kids.length c]] w fun E Y => (∃ za zc, E = .returned (.agg #[.int .i64 u.kind, .string u.name, .slice za u.kids.length zc]) ∧ TysAt Y (.slice za u.kids.length zc) u.kids) ∧ Below w.heap.size w Y := by
  have e2 : app l t = u := (hp.is.app t).trans e
  subst e2
  have hlen := hp.len
  refine (apply_any (d := l) (t := t) (by omega) (fun x hx => by have := hp.sized hi x hx; omega) (by omega) hs hT).mono ?_
  rintro E Y ⟨⟨za, zc, rfl, hin⟩, hb⟩
  exact ⟨⟨za, zc, rfl, hin.tys⟩, hb⟩
theorem fits_le {t : T} (h : tsize t ≤ 900000000) : Fits t := by
  refine T.by_kids (P := fun t => tsize t ≤ 900000000 → Fits t) (fun t H h => ?_) t h
  refine .mk t ?_ fun k hk => H k hk (by have := tsize_kid hk; omega)
  have h1 := len_sizes' t.kids
  rw [tsize_eq] at h; omega
theorem sameU_ret {t : T} (ht : tsize t ≤ 900000000) {a b : Option Addr} {c d : Nat} {w : World} (h : TysAt w (.slice a t.kids.length c) t.kids) (h' : TysAt w (.slice b t.kids.length d) t.kids) :
    Calls Tryd.prog 13 #[.agg #[.int .i64 t.kind, .string t.name, .slice a t.kids.length c], .agg #[.int .i64 t.kind, .string t.name, .slice b t.kids.length d]] w fun e Y => e = .returned (.bool true) ∧ Below w.heap.size w Y := by
  have := sameType_any (t := t) (t' := t) (w := w) (fits_le ht) h h'
  rwa [eqB_true rfl] at this
/-- What two types come to, and that it goes on. -/
theorem uni_start (S : USet) {a b : T} (ha : S.O a) (hb : S.O b) (hP : S.P a b) : ∃ r, Uni T.var a b r ∧ ∀ τ, r = .ok τ → UInv S τ ∧ sub τ a = sub τ b := by
  obtain ⟨r, hr, _⟩ := uni_total S.V T.var a b idem_var (vin_var _) (S.tin a ha) (S.tin b hb)
  refine ⟨r, hr, fun τ e => ?_⟩
  subst e
  exact ⟨(hr.inv (uinv_var S) (.of ha) (.of hb) hP).1, (hr.sound idem_var).2.2⟩
theorem uni_found {a b : T} {r : UR} (h : Uni T.var a b r) (θ : Sg) (e : sub θ a = sub θ b) : ∃ τ, r = .ok τ ∧ Goes θ τ := h.most idem_var (goes_var θ) e
/-- The other way round it is found, too. -/
theorem uni_turn {a b : T} {r q : UR} (h : Uni T.var a b r) (k : Uni T.var b a q) : (∃ τ τ', r = .ok τ ∧ q = .ok τ') ∨ ∃ e e', r = .bad e ∧ q = .bad e' := by
  cases r with
  | ok τ =>
    obtain ⟨τ', e, _⟩ := uni_found k τ (h.sound idem_var).2.2.symm
    exact .inl ⟨τ, τ', rfl, e⟩
  | bad e =>
    cases q with
    | ok τ' =>
      obtain ⟨_, e', _⟩ := uni_found h τ' (k.sound idem_var).2.2.symm
      cases e'
    | bad e' => exact .inr ⟨e, e', rfl, rfl⟩
theorem made_small {t : T} {D : Nat} (h : T.Good t ∧ Fits t ∧ (T.text t).length + 10 ≤ D) (hD : D ≤ 224) : uset3.O t := good_o3 h.1 (by have := tsize2_text t h.1; have := h.2.2; omega)
/-- The example's two types. -/
def s1 : USet := usetV [⟨#[97]⟩] 1 (by decide) (by decide) (by intro x hx; simp at hx; subst hx; decide) (by decide)
theorem o1_a : s1.O (.var ⟨#[97]⟩) := s1.var _ (by simp [s1, usetV])
theorem o1_int : s1.O tInt := ⟨fun x hx => by simp [tInt, vs, vss] at hx, .mk _ (by simp [tInt, T.kind]) (fun k hk => by simp [tInt, T.kids] at hk), by simp [tInt, tsize, tsizes]⟩
theorem first_found : ∃ τ, Uni T.var (.var ⟨#[97]⟩) tInt (.ok τ) ∧ UInv s1 τ ∧ ∀ l, PInv s1 l τ → l.length = 1 := by
  obtain ⟨r, hr, hs⟩ := uni_start s1 o1_a o1_int trivial
  obtain ⟨τ, rfl, _⟩ := uni_found hr (one ⟨#[97]⟩ tInt) (by show one ⟨#[97]⟩ tInt ⟨#[97]⟩ = _; rw [one_at]; rfl)
  refine ⟨τ, hr, (hs τ rfl).1, fun l hl => ?_⟩
  have h1 : τ ⟨#[97]⟩ = tInt := (hs τ rfl).2
  have h2 := hl.len
  have h3 : l ≠ [] := by
    rintro rfl
    have := hl.is ⟨#[97]⟩
    rw [h1] at this; cases this
  have : l.length ≠ 0 := fun e => h3 (List.length_eq_zero_iff.1 e)
  simp only [s1, usetV, List.length_singleton] at h2
  omega
theorem len_ret (a : Option Addr) (n c : Nat) (w : World) :
    Calls Tryd.prog 21 #[.agg #[.slice a n c]] w fun e Y => e = .returned (.int .i64 (n : Int)) ∧ Below w.heap.size w Y := by
  go_enter Tryd.func21, Tryd.ntmps21
  go_wp2
  go_ret
  exact ⟨rfl, (Below.refl _ w).alloc (Nat.le_refl _) _⟩
set_option maxRecDepth 100000 in
set_option maxHeartbeats 1000000 in
theorem first_uni (HU : PUni) (aT aO : Addr) (w : World) (hE : TwoE aT aO w) : Calls Tryd.prog 8 #[] w fun e w' => e = .returned (.bool true) ∧ Below w.heap.size w w' := by
  obtain ⟨τ, hr, hi, hl⟩ := first_found
  have HC := Lib.hid (fun (V : World) (hb : Below w.heap.size w V) => HU s1 (by decide) (.var ⟨#[97]⟩) tInt (.ok τ) none none 0 0 V aT aO hr o1_a o1_int trivial (hE.below hb) (TysAt.nil _ _ _) (TysAt.nil _ _ _))
  have HB := Lib.hid (fun o => (Below.refl _ w).alloc (Nat.le_refl _) o)
  simp only [T.kind, T.name, T.kids, List.length_nil, tInt] at HC
  clear hE hr HU
  go_enter Tryd.func8, Tryd.ntmps8
  go_wp2_with (go_at_call 10; refine (HC.out _ (HB.out _)).mono ?_)
  rintro E w2 ⟨⟨sv, l, rfl, h1, h2⟩, hb2⟩
  obtain ⟨sa, sc, rfl⟩ := h1.shape
  have hl1 := hl l h2
  rw [hl1]
  have HB2 := Lib.hid ((HB.out _).trans (hb2.mono (by simp)))
  clear h1 h2 hb2 HC hl1
  have HL := Lib.hid (fun W => len_ret sa 1 sc W)
  go_wp2_with (go_at_call 21; refine (HL.out _).mono ?_; rintro e w3 ⟨rfl, hb3⟩; have HB3 := Lib.hid ((HB2.out.alloc HB2.out.size _).trans (hb3.mono (by have := HB2.out.size; simp; omega))); clear hb3)
  go_ret
  exact ⟨rfl, HB3.out⟩
end Go.Proofs.YthpphjkoiipkkaaDoor
/- The program's All: pair by pair, as the graph goes. -/
namespace Go.Proofs.YthpphjkoiipkkaaDoor
open Go.RowKit Go.Maps Go.Sort Go.Lib
attribute [local go_sem] Oper.semAt_some

def tsumP : List (T × T) → Nat
  | [] => 0
  | x :: l => tsize x.1 + tsize x.2 + tsumP l
/-- What the pairs so far have come to, and what the others are to come to. -/
def Phase (G : Gr) (rt : Nat → Nat) (fl : Bool) (l : List (T × T)) (r : UR) : Prop :=
  (fl = true ∧ ∃ σ, SI G σ rt ∧ UniAll σ l r) ∨ (¬ Acyc G rt ∧ r = .bad true) ∨ (fl = false ∧ Acyc G rt ∧ r = .bad false)
theorem Phase.ext {G G' : Gr} {rt rt' : Nat → Nat} {l : List (T × T)} {r : UR} (h : Phase G rt true l r) (e : ExtG G rt G' rt') : Phase G' rt' true l r := by
  rcases h with ⟨_, σ, h1, h2⟩ | ⟨h1, h2⟩ | ⟨h, _⟩
  · exact .inl ⟨rfl, σ, e.si σ h1, h2⟩
  · exact .inr (.inl ⟨fun h => h1 (e.ac h), h2⟩)
  · cases h
theorem Phase.join {G : Gr} {rt : Nat → Nat} {a b : T} {l : List (T × T)} {r : UR} {E c i j : Nat} (hE : ∀ i, i < G.N → (G.ag i).length ≤ E) (g : GI G rt) (h : Phase G rt true ((a, b) :: l) r) (hi : i < G.N) (hj : j < G.N) (ei : G.tr i = a) (ej : G.tr j = b) :
    ∃ n fl rf, EndsIn G E (G.N + E) n rt [⟨i, j, false⟩] c fl rf ∧ GI G rf ∧ Phase G rf fl l r := by
  have hs : SK G E rt [⟨i, j, false⟩] := ⟨⟨⟨hi, hj, fun h => (by cases h)⟩, trivial⟩, ⟨fun t ht => (by cases ht), trivial⟩, ⟨by simp, trivial⟩⟩
  rcases h with ⟨_, σ, h1, h2⟩ | ⟨h1, h2⟩ | ⟨h, _⟩
  · cases h2 with
    | cons _ τ _ _ _ _ hu hr =>
      obtain ⟨n, fl, rf, k1, k2, k3⟩ := join_ends (K := G.N + E) hE g hi hj h1 (by rw [ei, ej]; exact hu) c
      exact ⟨n, fl, rf, k1, k2, .inl ⟨k3.1, τ, k3.2, hr⟩⟩
    | bad _ _ _ _ e hu =>
      obtain ⟨n, fl, rf, k1, k2, k3⟩ := join_ends (K := G.N + E) hE g hi hj h1 (by rw [ei, ej]; exact hu) c
      refine ⟨n, fl, rf, k1, k2, ?_⟩
      cases e with
      | true => exact .inr (.inl ⟨k3, rfl⟩)
      | false => exact .inr (.inr ⟨k3.1, k3.2, rfl⟩)
  · obtain ⟨n, fl, rf, k1, k2, k3⟩ := cyc_ends (K := G.N + E) hE (G.N + E + 1 - c) rt [⟨i, j, false⟩] c (Nat.le_refl _) (by simp [numJ]; omega) g hs h1
    exact ⟨n, fl, rf, k1, k2, .inr (.inl ⟨k3, h2⟩)⟩
  · cases h
/-- The variables of the graph are among these. -/
def VarIn (V : List ByteArray) (G : Gr) : Prop := ∀ i, i < G.N → ∀ x ∈ vs (G.tr i), x ∈ V
/-- The graph while pairs are laid into it: S: so many parts there can be. -/
structure AG (V : List ByteArray) (S : Nat) (w : World) (g mb : Nat) (G : Gr) (rt : Nat → Nat) (E c : Nat) (pv : Value) (sl : Nat → Value) (wr : World) : Prop where
  gm : GM w.heap.size G rt E c g mb pv sl wr
  gi : GI G rt
  hE : ∀ i, i < G.N → (G.ag i).length ≤ E
  n : G.N ≤ S
  e : E ≤ S
  c : c ≤ G.N + E
  vars : VarIn V G
  low : Below w.heap.size w wr
def AIU (V : List ByteArray) (S : Nat) (w : World) (g mb : Nat) (l : List (T × T)) (r : UR) (pos fl : Bool) (wr : World) : Prop :=
  ∃ G rt E c pv sl, AG V S w g mb G rt E c pv sl wr ∧ Phase G rt fl l r ∧ (pos = true → 0 < G.N)
/-- Behind the first put of a round, behind the second. -/
def P1 (V : List ByteArray) (S : Nat) (w : World) (g mb : Nat) (a : T) (l : List (T × T)) (r : UR) (i : Nat) (wr : World) : Prop :=
  ∃ G rt E c pv sl, AG V S w g mb G rt E c pv sl wr ∧ Phase G rt true l r ∧ i < G.N ∧ G.tr i = a
def P2 (V : List ByteArray) (S : Nat) (w : World) (g mb : Nat) (a b : T) (l : List (T × T)) (r : UR) (i j : Nat) (wr : World) : Prop :=
  ∃ G rt E c pv sl, AG V S w g mb G rt E c pv sl wr ∧ Phase G rt true l r ∧ (i < G.N ∧ G.tr i = a) ∧ j < G.N ∧ G.tr j = b
theorem put_ag {V : List ByteArray} {S S' : Nat} {w wr : World} {g mb : Nat} {G : Gr} {rt : Nat → Nat} {E c : Nat} {pv : Value} {sl : Nat → Value} {t : T} {a : Option Addr} {ca : Nat} (h : AG V S w g mb G rt E c pv sl wr) (hS : S + tsize t ≤ S') (hS' : S' ≤ 1000000) (hp : Plain3 t) (hn : ∀ x ∈ vs t, x.size ≤ 1000) (hv : ∀ x ∈ vs t, x ∈ V) (hT : TysAt wr (.slice a t.kids.length ca) t.kids) :
    Calls Tryd.prog 35 #[gp g, tyV t (.slice a t.kids.length ca)] wr fun e w' => ∃ G' rt' E' pv' sl' r, e = .returned (.int .i64 (r : Nat)) ∧ AG V S' w g mb G' rt' E' c pv' sl' w' ∧ ExtG G rt G' rt' ∧ r < G'.N ∧ G'.tr r = t := by
  have h1 := h.n; have h2 := h.e
  refine (put_any t hp hn w.heap.size G rt E c g mb pv sl wr a ca h.gm h.gi h.hE h.low.size (by omega) (by omega) hT).mono ?_
  rintro e w' ⟨G', rt', E', pv', sl', r, ⟨rfl, k1, k2⟩, ⟨k3, k4, k5, k6, k7, k8, _, k9⟩, k10, _, k11⟩
  refine ⟨G', rt', E', pv', sl', r, rfl, ⟨k10, k4, k5, by omega, by omega, by have := h.c; have := k3.n; omega, fun i hi x hx => ?_, h.low.trans k11⟩, k3, k1, k2⟩
  by_cases hlt : i < G.N
  · rw [(k3.old i hlt).1] at hx; exact h.vars i hlt x hx
  · exact hv x (k9 i (by omega) hi x hx)
theorem put_one {V : List ByteArray} {S S' : Nat} {w wr : World} {g mb : Nat} {t : T} {l : List (T × T)} {r : UR} {pos : Bool} {a : Option Addr} {ca : Nat} (h : AIU V S w g mb l r pos true wr) (hS : S + tsize t ≤ S') (hS' : S' ≤ 1000000) (hp : Plain3 t) (hn : ∀ x ∈ vs t, x.size ≤ 1000) (hv : ∀ x ∈ vs t, x ∈ V) (hT : TysAt wr (.slice a t.kids.length ca) t.kids) :
    Calls Tryd.prog 35 #[gp g, tyV t (.slice a t.kids.length ca)] wr fun e w' => ∃ i : Nat, e = .returned (.int .i64 (i : Nat)) ∧ P1 V S' w g mb t l r i w' := by
  obtain ⟨G, rt, E, c, pv, sl, h1, h2, _⟩ := h
  refine (put_ag h1 hS hS' hp hn hv hT).mono ?_
  rintro e w' ⟨G', rt', E', pv', sl', i, rfl, k1, k2, k3, k4⟩
  exact ⟨i, rfl, G', rt', E', c, pv', sl', k1, h2.ext k2, k3, k4⟩
theorem put_two {V : List ByteArray} {S S' : Nat} {w wr : World} {g mb i : Nat} {t0 t : T} {l : List (T × T)} {r : UR} {a : Option Addr} {ca : Nat} (h : P1 V S w g mb t0 l r i wr) (hS : S + tsize t ≤ S') (hS' : S' ≤ 1000000) (hp : Plain3 t) (hn : ∀ x ∈ vs t, x.size ≤ 1000) (hv : ∀ x ∈ vs t, x ∈ V) (hT : TysAt wr (.slice a t.kids.length ca) t.kids) :
    Calls Tryd.prog 35 #[gp g, tyV t (.slice a t.kids.length ca)] wr fun e w' => ∃ j : Nat, e = .returned (.int .i64 (j : Nat)) ∧ P2 V S' w g mb t0 t l r i j w' := by
  obtain ⟨G, rt, E, c, pv, sl, h1, h2, h3, h4⟩ := h
  refine (put_ag h1 hS hS' hp hn hv hT).mono ?_
  rintro e w' ⟨G', rt', E', pv', sl', j, rfl, k1, k2, k3, k4⟩
  exact ⟨j, rfl, G', rt', E', c, pv', sl', k1, h2.ext k2, ⟨Nat.lt_of_lt_of_le h3 k2.n, (k2.old i h3).1.trans h4⟩, k3, k4⟩
theorem GM.form {B : Nat} {G : Gr} {rt : Nat → Nat} {E c g mb : Nat} {pv : Value} {sl : Nat → Value} {w : World} (h : GM B G rt E c g mb pv sl w) (hN : 0 < G.N) : ∃ p cap, pv = .slice (some ⟨p, 0, none⟩) G.N cap ∧ B ≤ p := by
  obtain ⟨_, _, ⟨_, _, _, h4, _⟩, _⟩ := h
  rcases h4.2 with ⟨_, e⟩ | ⟨p, cap, cur, e, hb, _⟩
  · omega
  · exact ⟨p, cap, e, hb⟩
theorem join_two {V : List ByteArray} {S : Nat} {w wr : World} {g mb i j : Nat} {a b : T} {l : List (T × T)} {r : UR} (h : P2 V S w g mb a b ((a, b) :: l) r i j wr) (hS : S ≤ 1000000) :
    Calls Tryd.prog 34 #[gp g, .int .i64 (i : Int), .int .i64 (j : Int)] wr fun e w' => ∃ fl, e = .returned (.bool fl) ∧ AIU V S w g mb l r true fl w' := by
  obtain ⟨G, rt, E, c, pv, sl, h1, h2, ⟨h3, h4⟩, h5, h6⟩ := h
  obtain ⟨n, fl, rf, k1, k2, k3⟩ := h2.join h1.hE h1.gi h3 h5 h4 h6
  obtain ⟨p, cap, rfl, hp⟩ := h1.gm.form (by omega)
  have hn := h1.n; have he := h1.e
  refine (join_any h1.gm h1.gi h1.hE (by omega) (by omega) h3 h5 h1.c k1).mono ?_
  rintro e w' ⟨⟨rfl, c', q1, q2⟩, q3⟩
  exact ⟨fl, rfl, G, rf, E, c', _, sl, ⟨q2, k2, h1.hE, h1.n, h1.e, q1, h1.vars, h1.low.trans (q3.below hp h1.gm.bg h1.low.size)⟩, k3, fun _ => by omega⟩
/-- The order, and whether there is one. -/
def OrdA (V : List ByteArray) (S : Nat) (w : World) (g mb : Nat) (r : UR) (fl : Bool) (e : Ending) (w' : World) : Prop := ∃ v ends, e = .returned (.tuple #[v, .bool ends]) ∧ Below w.heap.size w w' ∧
      ((ends = false ∧ r = .bad true) ∨ (ends = true ∧ fl = false ∧ r = .bad false) ∨ (ends = true ∧ fl = true ∧ ∃ σ G rt E c p cap sl ls, r = .ok σ ∧ SI G σ rt ∧ w.heap.size ≤ p ∧ AG V S w g mb G rt E c (.slice (some ⟨p, 0, none⟩) G.N cap) sl w' ∧ 0 < G.N ∧ PlcAt w' v ls ∧ (ls.length ≤ G.N ∧ ∀ i ∈ ls, i < G.N ∧ rt i = i) ∧ (∀ i, i < G.N → rt i = i → i ∈ ls) ∧ ∀ q (hq : q < ls.length), ∀ x ∈ G.ag ls[q], ∃ p, ∃ hp : p < ls.length, q < p ∧ ls[p] = rt x))
theorem order_ai {V : List ByteArray} {S : Nat} {w wr : World} {g mb : Nat} {r : UR} {fl : Bool} (h : AIU V S w g mb [] r true fl wr) (hS : S ≤ 1000000) :
    Calls Tryd.prog 36 #[gp g] wr fun e w' => OrdA V S w g mb r fl e w' := by
  obtain ⟨G, rt, E, c, pv, sl, h1, h2, h3⟩ := h
  have hN := h3 rfl
  obtain ⟨p, cap, rfl, hp⟩ := h1.gm.form hN
  have hn := h1.n; have he := h1.e
  refine (order_any h1.gm h1.gi (fun i hi => Nat.le_trans (h1.hE i hi) (by omega)) (by omega) hN).mono ?_
  rintro e w' ⟨v, ls, W, rfl, hO, hP, hM, hF⟩
  have hb : Below w.heap.size w w' := h1.low.trans (hF.two g |>.below hp h1.gm.bg h1.low.size)
  obtain ⟨e1, e2⟩ := hO.ends h1.gi
  refine ⟨v, _, rfl, hb, ?_⟩
  by_cases hA : Acyc G rt
  · have hl := e1.2 hA
    rcases h2 with ⟨rfl, σ, s1, s2⟩ | ⟨h, _⟩ | ⟨rfl, _, rfl⟩
    · cases s2
      obtain ⟨q1, q2⟩ := e2 hl
      refine .inr (.inr ⟨decide_eq_true hl, rfl, σ, G, rt, E, c, p, cap, sl, ls, rfl, s1, hp, ⟨hM, h1.gi, h1.hE, h1.n, h1.e, h1.c, h1.vars, hb⟩, hN, hP, ⟨?_, fun i hi => mem_roots.1 (hO.sub i hi)⟩, q1, q2⟩)
      have := nodup_len (R := List.range G.N) hO.nodup fun i hi => List.mem_range.2 (mem_roots.1 (hO.sub i hi)).1
      simpa using this
    · exact (h hA).elim
    · exact .inr (.inl ⟨decide_eq_true hl, rfl, rfl⟩)
  · have hl : ¬ ls.length = (rootsU rt G.N).length := fun h => hA (e1.1 h)
    rcases h2 with ⟨_, σ, s1, _⟩ | ⟨_, rfl⟩ | ⟨_, h, _⟩
    · exact (hA (s1.acyc h1.gi)).elim
    · exact .inl ⟨decide_eq_false hl, rfl⟩
    · exact (hA h).elim
end Go.Proofs.YthpphjkoiipkkaaDoor
/- The program's All, by a contract of found. -/
namespace Go.Proofs.YthpphjkoiipkkaaDoor
open Go.RowKit Go.Maps Go.Sort Go.Lib
attribute [local go_sem] Oper.semAt_some

/-- What found tells. -/
def FoundR (w wr : World) (σ : Sg) (e : Ending) (w' : World) : Prop := (∃ sv d, e = .returned (.agg #[sv]) ∧ SubAt sv d w' ∧ IsSg d σ) ∧ Below w.heap.size wr w'
theorem SubAt.other {v x : Value} {d : List PR} {w : World} {b : Nat} {cs : Array Value} {fz : Nat × Nat} (h : SubAt v d w) (hb : w.heap[b]? = some (.cells cs 33 fz)) : SubAt v d (w.setCell ⟨b, 0, none⟩ x) := by
  have ho : ∀ k, k ≠ b → (w.setCell ⟨b, 0, none⟩ x).heap[k]? = w.heap[k]? := fun k hk => Below.heap_setCell _ ⟨b, 0, none⟩ _ k hk
  refine ⟨⟨?_, h.1.2⟩, h.2.keep fun k cs' fz' hk => (ho k (by rintro rfl; rw [hb] at hk; cases hk)).trans hk⟩
  rcases h.1.1 with e | ⟨g, cap, e, hc, hr⟩
  · exact .inl e
  · refine .inr ⟨g, cap, e, hc, hr.same (ho g ?_)⟩
    rintro rfl
    obtain ⟨cs', h1, _⟩ := hr
    rw [hb] at h1; cases h1
/-- The contract of found. -/
def FoundOK : Prop := ∀ (V : List ByteArray) (S : Nat) (w wr : World) (g mb : Nat) (σ : Sg) (G : Gr) (rt : Nat → Nat) (E c p cap : Nat) (sl : Nat → Value) (ls : List Nat) (v : Value), SI G σ rt → w.heap.size ≤ p → AG V S w g mb G rt E c (.slice (some ⟨p, 0, none⟩) G.N cap) sl wr → 0 < G.N → PlcAt wr v ls → (ls.length ≤ G.N ∧ ∀ i ∈ ls, i < G.N ∧ rt i = i) → (∀ i, i < G.N → rt i = i → i ∈ ls) → (∀ q (hq : q < ls.length), ∀ x ∈ G.ag ls[q], ∃ p, ∃ hp : p < ls.length, q < p ∧ ls[p] = rt x) → V.length < 20 → (∀ x ∈ V, tsize (σ x) ≤ 900000000) → S ≤ 1000000 →
    Calls Tryd.prog 37 #[gp g, v] wr fun e w' => FoundR w wr σ e w'
/-- What All tells. -/
def AllR (aT aO : Addr) (r : UR) (e : Ending) (w' : World) : Prop :=
  match r with
  | .ok τ => ∃ sv d, e = .returned (.tuple #[.agg #[sv], .nilIface]) ∧ SubAt sv d w' ∧ IsSg d τ
  | .bad b => ∃ a c, e = .returned (.tuple #[.agg #[.slice a 0 c], errP (if b then aO else aT)])
def g0 : Gr := ⟨0, fun _ => .var ⟨#[]⟩, fun _ => []⟩
theorem start_ai (V : List ByteArray) (w : World) (l : List (T × T)) (r : UR) (h : UniAll T.var l r) : AIU V 0 w (w.heap.size + 1) w.heap.size l r false true ((w.alloc (.map #[] 0)).alloc (.cells #[.slice none 0 0, .map (some w.heap.size), .int .i64 0, .int .i64 0] 80)) := by
  have hb := below_two w (.map #[] 0) (.cells #[.slice none 0 0, .map (some w.heap.size), .int .i64 0, .int .i64 0] 80)
  have hw : Way g0 id id id := ⟨(fun i hi => absurd hi (Nat.not_lt_zero _)), (fun i hi => absurd hi (Nat.not_lt_zero _)), (fun i hi => absurd hi (Nat.not_lt_zero _)), (fun i hi => absurd hi (Nat.not_lt_zero _))⟩
  have hok : g0.OK := ⟨(fun i hi => absurd hi (Nat.not_lt_zero _)), (fun i hi => absurd hi (Nat.not_lt_zero _)), (fun i j hi => absurd hi (Nat.not_lt_zero _)), (fun i hi => absurd hi (Nat.not_lt_zero _))⟩
  have hgi : GI g0 id := ⟨hok, (fun i hi => absurd hi (Nat.not_lt_zero _)), (fun i hi => absurd hi (Nat.not_lt_zero _)), (fun i j hi => absurd hi (Nat.not_lt_zero _)), (fun i hi => absurd hi (Nat.not_lt_zero _))⟩
  have hsi : SI g0 T.var id := ⟨idem_var, (fun i j hi => absurd hi (Nat.not_lt_zero _)), (fun i hi => absurd hi (Nat.not_lt_zero _)), fun _ _ => rfl⟩
  have htop : ((w.alloc (.map #[] 0)).alloc (.cells #[.slice none 0 0, .map (some w.heap.size), .int .i64 0, .int .i64 0] 80)).heap[w.heap.size + 1]? = some (.cells #[.slice none 0 0, .map (some w.heap.size), .int .i64 0, .int .i64 0] 80 (0, 0)) := by
    have := alloc_new (w.alloc (.map #[] 0)) (.cells #[.slice none 0 0, .map (some w.heap.size), .int .i64 0, .int .i64 0] 80)
    simpa using this
  have hm : MapV w.heap.size 0 (fun _ => none) ((w.alloc (.map #[] 0)).alloc (.cells #[.slice none 0 0, .map (some w.heap.size), .int .i64 0, .int .i64 0] 80)) :=
    ⟨.map [], ⟨[], rfl⟩, (World.ownsMap_made (H := Unit) w Tryd.prog 9 (plainElem Tryd.prog 3)).alloc _, fun n _ => ⟨rfl, rfl⟩⟩
  have hpl : PlV g0 (fun _ => none) := fun n => ⟨fun i e => (by cases e), fun _ => (fun i hi => absurd hi (Nat.not_lt_zero _))⟩
  have hgm : GM w.heap.size g0 id 0 0 (w.heap.size + 1) w.heap.size (.slice none 0 0) (fun _ => .slice none 0 0) ((w.alloc (.map #[] 0)).alloc (.cells #[.slice none 0 0, .map (some w.heap.size), .int .i64 0, .int .i64 0] 80)) :=
    ⟨by omega, htop, ⟨id, id, hw, World.ownsRow_nil _ _ _ _, (fun i hi => absurd hi (Nat.not_lt_zero _))⟩, ⟨fun _ => none, Nat.le_refl _, hm, hpl⟩⟩
  exact ⟨g0, id, 0, 0, .slice none 0 0, fun _ => .slice none 0 0, ⟨hgm, hgi, (fun i hi => absurd hi (Nat.not_lt_zero _)), Nat.le_refl _, Nat.le_refl _, Nat.zero_le _, (fun i hi => absurd hi (Nat.not_lt_zero _)), hb⟩, .inl ⟨rfl, T.var, hsi, h⟩, fun h => (by cases h)⟩
theorem tsumP_take {l : List (Tl × Tl)} {i : Nat} (h : i < l.length) : tsumP (plainP (l.take (i + 1))) = tsumP (plainP (l.take i)) + tsize l[i].1.1 + tsize l[i].2.1 := by
  have happ : ∀ a b : List (T × T), tsumP (a ++ b) = tsumP a + tsumP b := by
    intro a b
    induction a with
    | nil => simp [tsumP]
    | cons x a ih => rw [List.cons_append, tsumP, tsumP, ih]; omega
  rw [List.take_succ_eq_append_getElem h]
  unfold plainP
  rw [List.map_append, happ]
  simp [tsumP]; omega
theorem tsumP_le (l : List (Tl × Tl)) (i : Nat) : tsumP (plainP (l.take i)) ≤ tsumP (plainP l) := by
  have happ : ∀ a b : List (T × T), tsumP (a ++ b) = tsumP a + tsumP b := by
    intro a b
    induction a with
    | nil => simp [tsumP]
    | cons x a ih => rw [List.cons_append, tsumP, tsumP, ih]; omega
  conv => rhs; rw [← List.take_append_drop i l]
  unfold plainP
  rw [List.map_append, happ]; omega
theorem AIU.low {V : List ByteArray} {S : Nat} {w wr : World} {g mb : Nat} {l : List (T × T)} {r : UR} {pos fl : Bool} (h : AIU V S w g mb l r pos fl wr) : Below w.heap.size w wr := by
  obtain ⟨_, _, _, _, _, _, h, _⟩ := h; exact h.low
theorem AIU.keep {V : List ByteArray} {S : Nat} {w wr w' : World} {g mb : Nat} {l : List (T × T)} {r : UR} {pos fl : Bool} (h : AIU V S w g mb l r pos fl wr) (k : Below wr.heap.size wr w') : AIU V S w g mb l r pos fl w' := by
  obtain ⟨G, rt, E, c, pv, sl, h, h2⟩ := h
  exact ⟨G, rt, E, c, pv, sl, ⟨h.gm.keep k, h.gi, h.hE, h.n, h.e, h.c, h.vars, h.low.trans (k.mono h.low.size)⟩, h2⟩
theorem P1.low {V : List ByteArray} {S : Nat} {w wr : World} {g mb i : Nat} {a : T} {l : List (T × T)} {r : UR} (h : P1 V S w g mb a l r i wr) : Below w.heap.size w wr := by
  obtain ⟨_, _, _, _, _, _, h, _⟩ := h; exact h.low
theorem AIU.end0 {V : List ByteArray} {S S' : Nat} {w wr : World} {g mb : Nat} {l : List (T × T)} {r : UR} {fl : Bool} (h : AIU V S w g mb l r true fl wr) (hl : l = [] ∨ fl = false) (hS : S ≤ S') : AIU V S' w g mb [] r true fl wr := by
  obtain ⟨G, rt, E, c, pv, sl, h1, h2, h3⟩ := h
  have h4 := h1.n; have h5 := h1.e
  refine ⟨G, rt, E, c, pv, sl, ⟨h1.gm, h1.gi, h1.hE, by omega, by omega, h1.c, h1.vars, h1.low⟩, ?_, h3⟩
  rcases hl with rfl | rfl
  · exact h2
  · rcases h2 with ⟨h, _⟩ | h | h
    · cases h
    · exact .inr (.inl h)
    · exact .inr (.inr h)
set_option maxRecDepth 100000 in
set_option maxHeartbeats 8000000 in
theorem all_any (HF : FoundOK) (V : List ByteArray) (hV : V.length < 20) (l : List (Tl × Tl)) (hl0 : l ≠ []) (hl : l.length ≤ 1000) (r : UR) (v : Value) (w : World) (aT aO : Addr) (h : UniAll T.var (plainP l) r) (hs : tsumP (plainP l) ≤ 900000) (hO : ∀ x ∈ l, (Plain3 x.1.1 ∧ ∀ y ∈ vs x.1.1, y.size ≤ 1000 ∧ y ∈ V) ∧ (Plain3 x.2.1 ∧ ∀ y ∈ vs x.2.1, y.size ≤ 1000 ∧ y ∈ V)) (hz : ∀ σ, r = .ok σ → ∀ x ∈ V, tsize (σ x) ≤ 900000000) (hE : TwoE aT aO w) (hv : P2At v l w) :
    Calls Tryd.prog 16 #[v] w fun e w' => AllR aT aO r e w' ∧ Below w.heap.size w w' := by
  have HP := Lib.hid hv
  obtain ⟨va, vc, rfl, hcap, _⟩ := hv
  have hb1 := (Below.refl _ w).alloc (Nat.le_refl _) (.cells #[.slice none 0 0] 33)
  have hx1 := alloc_new w (.cells #[.slice none 0 0] 33)
  have hs1 : (w.alloc (.cells #[.slice none 0 0] 33)).heap.size = w.heap.size + 1 := by simp
  have hS := start_ai V (w.alloc (.cells #[.slice none 0 0] 33)) (plainP l) r h
  obtain ⟨w1, hw1⟩ : ∃ w1, w.alloc (.cells #[.slice none 0 0] 33) = w1 := ⟨_, rfl⟩
  rw [hw1] at hb1 hx1 hs1 hS
  have HS := Lib.hid hS; have HB1 := Lib.hid hb1; have HX1 := Lib.hid hx1; have HS1 := Lib.hid hs1
  have hmm : ∀ W : World, (Instr.makeMap 77 none).run Tryd.prog W = .ok (.map (some W.heap.size)) (W.alloc (.map #[] 0)) := fun _ => rfl
  clear hb1 hx1 hs1 hS
  have HOO := Lib.hid hO
  have HEE := Lib.hid hE
  have HZ := Lib.hid hz
  have HFO := Lib.hid HF
  clear h hO hE hz HF
  go_enter Tryd.func16, Tryd.ntmps16
  go_wp2
  go_loopw [5, 6] (fun vf vi wr => ∃ (i : Nat) (fl : Bool), i ≤ l.length ∧ vi = .int .i64 (i : Nat) ∧ vf = .bool fl ∧ (fl = false → 0 < i) ∧ Hid (AIU V (tsumP (plainP (l.take i))) w1 (w1.heap.size + 1) w1.heap.size (plainP (l.drop i)) r (decide (0 < i)) fl wr)) (fun _ vi _ => l.length - (intOf vi).toNat)
  case atStart => exact ⟨0, true, Nat.zero_le _, rfl, rfl, (fun h => by cases h), Lib.hid (by simpa [plainP, tsumP] using HS.out)⟩
  case round =>
    obtain ⟨i, fl, hi, rfl, rfl, hfi, hX⟩ := hrel
    by_cases hlt : i < l.length
    · have hiz : (i : Int) < (l.length : Int) := by omega
      cases fl with
      | true =>
        have hA := hX.out
        have hB := HB1.out.trans (hA.low.mono (by rw [HS1.out]; omega))
        obtain ⟨_, _, e9, _, hrow⟩ := HP.out
        cases e9
        obtain ⟨gk, rfl, lg, ⟨⟨x0, x1, x2⟩, y0, y1, y2⟩, xk, yk⟩ := hrow i hlt
        have f1 := fun o => hB.cell (p := ⟨gk, o, none⟩) lg
        have HY := Lib.hid (fun (W : World) (hb : Below w1.heap.size w1 W) => (by
          have hB9 := HB1.out.trans (hb.mono (by rw [HS1.out]; omega))
          have f9 := fun o => hB9.cell (p := ⟨gk, o, none⟩) lg
          exact ⟨(f9 _).trans y0, (f9 _).trans y1, (f9 _).trans y2, Nat.lt_of_lt_of_le lg hB9.size⟩ : W.cell? ⟨gk, i * 6 + 3, none⟩ = some (.int .i64 l[i].2.1.kind) ∧ W.cell? ⟨gk, i * 6 + 3 + 1, none⟩ = some (.string l[i].2.1.name) ∧ W.cell? ⟨gk, i * 6 + 3 + 2, none⟩ = some (.slice l[i].2.2.1 l[i].2.1.kids.length l[i].2.2.2) ∧ gk < W.heap.size))
        rw [← f1] at x0 x1 x2 y0 y1 y2
        have hlg : gk < wr.heap.size := Nat.lt_of_lt_of_le lg hB.size
        obtain ⟨⟨pa, na⟩, pb, nb⟩ := HOO.out _ (List.getElem_mem hlt)
        have hts := tsumP_take hlt
        have hts2 := tsumP_le l (i + 1)
        have hd : plainP (l.drop i) = (l[i].1.1, l[i].2.1) :: plainP (l.drop (i + 1)) := by rw [List.drop_eq_getElem_cons hlt]; rfl
        rw [hd] at hA
        have HA1 := Lib.hid (put_one (hA.keep (Below.refl _ wr).drew) (Nat.le_refl _) (by omega) pa (fun y hy => (na y hy).1) (fun y hy => (na y hy).2) (xk.keep (KeepT.of_below hB.drew)))
        have HA2 := Lib.hid (fun (k : Nat) (W : World) (h1 : P1 V (tsumP (plainP (l.take i)) + tsize l[i].1.1) w1 (w1.heap.size + 1) w1.heap.size l[i].1.1 ((l[i].1.1, l[i].2.1) :: plainP (l.drop (i + 1))) r k W) => put_two h1 (S' := tsumP (plainP (l.take (i + 1)))) (by omega) (by omega) pb (fun y hy => (nb y hy).1) (fun y hy => (nb y hy).2) (yk.keep (KeepT.of_below (HB1.out.trans (h1.low.mono (by rw [HS1.out]; omega))))))
        have HA3 := Lib.hid (fun (k j : Nat) (W : World) (h2 : P2 V (tsumP (plainP (l.take (i + 1)))) w1 (w1.heap.size + 1) w1.heap.size l[i].1.1 l[i].2.1 ((l[i].1.1, l[i].2.1) :: plainP (l.drop (i + 1))) r k j W) => join_two h2 (by omega))
        clear hA hB hrow xk yk f1 pa na pb nb hts hts2 hd hX hfi
        generalize l[i] = u at *
        obtain ⟨⟨ta, aa, ca⟩, tb, ab, cb⟩ := u
        simp only [tyV] at x0 x1 x2 y0 y1 y2 HA1 HA2 HA3
        go_wp2
        go_region_with (first
          | (go_at_call 34; refine (HA3.out _ _ _ HQ2.out).mono ?_; rintro e w7 ⟨fl7, rfl, hq7⟩; have HQ7 := Lib.hid hq7; clear hq7)
          | (go_at_call 35; refine (HA2.out _ _ HQ1.out).mono ?_; rintro e w6 ⟨j6, rfl, hq6⟩; have HQ2 := Lib.hid hq6; clear hq6)
          | (go_at_call 35; refine HA1.out.mono ?_; rintro e w5 ⟨j5, rfl, hq5⟩; have HQ1 := Lib.hid hq5; obtain ⟨s0, s1, s2, s3⟩ := HY.out _ hq5.low; clear hq5))
        all_goals
          go_wp2
          go_roundw
          case rel => exact ⟨i + 1, _, by omega, by go_num, rfl, (fun _ => Nat.succ_pos i), Lib.hid (by simpa using HQ7.out)⟩
          case measure => simp [intOf]; omega
      | false =>
        have hA0 := (show AIU V _ w1 _ _ _ r true false wr by have := hX.out; rwa [decide_eq_true (hfi rfl)] at this).end0 (.inr rfl) (tsumP_le l i)
        clear hfi
        have HO := Lib.hid (order_ai hA0 (by omega))
        clear hA0 hX
        go_wp2_with (go_at_call 36; refine HO.out.mono ?_)
        rintro e w8 ⟨v8, ends, rfl, hb8, hcase⟩
        have hB8 := HB1.out.trans (hb8.mono (by rw [HS1.out]; omega))
        have hx8 := (hb8.block w.heap.size (by rw [HS1.out]; omega)).trans HX1.out
        have hE8 := HEE.out.below hB8
        have e1 := hE8.1
        have e2 := hE8.2
        have z0 : w8.cell? ⟨w.heap.size, 0, none⟩ = some (.slice none 0 0) := by rw [Lib.cell_of_heap hx8]; rfl
        have zf := Lib.frozen_of_heap hx8 0
        have hwl : w.heap.size < w8.heap.size := (Array.getElem?_eq_some_iff.1 hx8).1
        have HB8 := Lib.hid hB8
        have HX8 := Lib.hid hx8
        have hE9 := HEE.out.below (hB8.setCell (p := ⟨w.heap.size, 0, none⟩) (Nat.le_refl _) (.slice none 0 0))
        have e3 := hE9.1
        have e4 := hE9.2
        clear hB8 hx8 hE8 HO hE9
        rcases hcase with ⟨rfl, hr⟩ | ⟨rfl, hfl, hr⟩ | ⟨rfl, hfl, hrest⟩
        · have HR := Lib.hid hr
          clear hr
          go_wp2
          go_region
          go_wp2
          have hs : (w8.setCell ⟨w.heap.size, 0, none⟩ (.slice none 0 0)).heap[w.heap.size]? = some (.cells #[.slice none 0 0] 33 (0, 0)) := blk_set (W := w8) (o := 0) HX8.out (.slice none 0 0)
          have hc0 : (w8.setCell ⟨w.heap.size, 0, none⟩ (.slice none 0 0)).cell? ⟨w.heap.size, 0, none⟩ = some (.slice none 0 0) := by rw [Lib.cell_of_heap hs]; rfl
          refine bodyPost_ret (v := .tuple #[.agg #[.slice none 0 0], errP aO]) (by simp [results, Tryd.results16, go_sem, hc0]) rfl ⟨?_, (HB8.out.setCell (p := ⟨w.heap.size, 0, none⟩) (Nat.le_refl _) _).drew⟩
          rw [HR.out]
          exact ⟨none, 0, rfl⟩
        · have HR := Lib.hid hr
          clear hr hfl
          go_wp2
          go_region
          go_wp2
          have hs : (w8.setCell ⟨w.heap.size, 0, none⟩ (.slice none 0 0)).heap[w.heap.size]? = some (.cells #[.slice none 0 0] 33 (0, 0)) := blk_set (W := w8) (o := 0) HX8.out (.slice none 0 0)
          have hc0 : (w8.setCell ⟨w.heap.size, 0, none⟩ (.slice none 0 0)).cell? ⟨w.heap.size, 0, none⟩ = some (.slice none 0 0) := by rw [Lib.cell_of_heap hs]; rfl
          refine bodyPost_ret (v := .tuple #[.agg #[.slice none 0 0], errP aT]) (by simp [results, Tryd.results16, go_sem, hc0]) rfl ⟨?_, (HB8.out.setCell (p := ⟨w.heap.size, 0, none⟩) (Nat.le_refl _) _).drew⟩
          rw [HR.out]
          exact ⟨none, 0, rfl⟩
        · cases hfl
    · have hiz : ¬ ((i : Int) < (l.length : Int)) := by omega
      have hpos : 0 < i := by
        have := List.length_pos_iff.2 hl0
        omega
      have hdr : plainP (l.drop i) = [] := by rw [List.drop_eq_nil_of_le (by omega)]; rfl
      have hA1 := hX.out
      rw [decide_eq_true hpos] at hA1
      cases fl with
      | false =>
        have hA0 := hA1.end0 (.inr rfl) (tsumP_le l i)
        clear hfi hA1 hdr
        have HO := Lib.hid (order_ai hA0 (by omega))
        clear hA0 hX
        go_wp2_with (go_at_call 36; refine HO.out.mono ?_)
        rintro e w8 ⟨v8, ends, rfl, hb8, hcase⟩
        have hB8 := HB1.out.trans (hb8.mono (by rw [HS1.out]; omega))
        have hx8 := (hb8.block w.heap.size (by rw [HS1.out]; omega)).trans HX1.out
        have hE8 := HEE.out.below hB8
        have e1 := hE8.1
        have e2 := hE8.2
        have z0 : w8.cell? ⟨w.heap.size, 0, none⟩ = some (.slice none 0 0) := by rw [Lib.cell_of_heap hx8]; rfl
        have zf := Lib.frozen_of_heap hx8 0
        have hwl : w.heap.size < w8.heap.size := (Array.getElem?_eq_some_iff.1 hx8).1
        have HB8 := Lib.hid hB8
        have HX8 := Lib.hid hx8
        have hE9 := HEE.out.below (hB8.setCell (p := ⟨w.heap.size, 0, none⟩) (Nat.le_refl _) (.slice none 0 0))
        have e3 := hE9.1
        have e4 := hE9.2
        clear hB8 hx8 hE8 HO hE9
        rcases hcase with ⟨rfl, hr⟩ | ⟨rfl, hfl, hr⟩ | ⟨rfl, hfl, hrest⟩
        · have HR := Lib.hid hr
          clear hr
          go_wp2
          go_region
          go_wp2
          have hs : (w8.setCell ⟨w.heap.size, 0, none⟩ (.slice none 0 0)).heap[w.heap.size]? = some (.cells #[.slice none 0 0] 33 (0, 0)) := blk_set (W := w8) (o := 0) HX8.out (.slice none 0 0)
          have hc0 : (w8.setCell ⟨w.heap.size, 0, none⟩ (.slice none 0 0)).cell? ⟨w.heap.size, 0, none⟩ = some (.slice none 0 0) := by rw [Lib.cell_of_heap hs]; rfl
          refine bodyPost_ret (v := .tuple #[.agg #[.slice none 0 0], errP aO]) (by simp [results, Tryd.results16, go_sem, hc0]) rfl ⟨?_, (HB8.out.setCell (p := ⟨w.heap.size, 0, none⟩) (Nat.le_refl _) _).drew⟩
          rw [HR.out]
          exact ⟨none, 0, rfl⟩
        · have HR := Lib.hid hr
          clear hr hfl
          go_wp2
          go_region
          go_wp2
          have hs : (w8.setCell ⟨w.heap.size, 0, none⟩ (.slice none 0 0)).heap[w.heap.size]? = some (.cells #[.slice none 0 0] 33 (0, 0)) := blk_set (W := w8) (o := 0) HX8.out (.slice none 0 0)
          have hc0 : (w8.setCell ⟨w.heap.size, 0, none⟩ (.slice none 0 0)).cell? ⟨w.heap.size, 0, none⟩ = some (.slice none 0 0) := by rw [Lib.cell_of_heap hs]; rfl
          refine bodyPost_ret (v := .tuple #[.agg #[.slice none 0 0], errP aT]) (by simp [results, Tryd.results16, go_sem, hc0]) rfl ⟨?_, (HB8.out.setCell (p := ⟨w.heap.size, 0, none⟩) (Nat.le_refl _) _).drew⟩
          rw [HR.out]
          exact ⟨none, 0, rfl⟩
        · cases hfl
      | true =>
        have hA0 := hA1.end0 (.inl hdr) (tsumP_le l i)
        clear hfi hA1 hdr
        have HO := Lib.hid (order_ai hA0 (by omega))
        clear hA0 hX
        go_wp2_with (go_at_call 36; refine HO.out.mono ?_)
        rintro e w8 ⟨v8, ends, rfl, hb8, hcase⟩
        have hB8 := HB1.out.trans (hb8.mono (by rw [HS1.out]; omega))
        have hx8 := (hb8.block w.heap.size (by rw [HS1.out]; omega)).trans HX1.out
        have hE8 := HEE.out.below hB8
        have e1 := hE8.1
        have e2 := hE8.2
        have z0 : w8.cell? ⟨w.heap.size, 0, none⟩ = some (.slice none 0 0) := by rw [Lib.cell_of_heap hx8]; rfl
        have zf := Lib.frozen_of_heap hx8 0
        have hwl : w.heap.size < w8.heap.size := (Array.getElem?_eq_some_iff.1 hx8).1
        have HB8 := Lib.hid hB8
        have HX8 := Lib.hid hx8
        have hE9 := HEE.out.below (hB8.setCell (p := ⟨w.heap.size, 0, none⟩) (Nat.le_refl _) (.slice none 0 0))
        have e3 := hE9.1
        have e4 := hE9.2
        clear hB8 hx8 hE8 HO hE9
        rcases hcase with ⟨rfl, hr⟩ | ⟨rfl, hfl, hr⟩ | ⟨rfl, hfl, hrest⟩
        · have HR := Lib.hid hr
          clear hr
          go_wp2
          go_region
          go_wp2
          have hs : (w8.setCell ⟨w.heap.size, 0, none⟩ (.slice none 0 0)).heap[w.heap.size]? = some (.cells #[.slice none 0 0] 33 (0, 0)) := blk_set (W := w8) (o := 0) HX8.out (.slice none 0 0)
          have hc0 : (w8.setCell ⟨w.heap.size, 0, none⟩ (.slice none 0 0)).cell? ⟨w.heap.size, 0, none⟩ = some (.slice none 0 0) := by rw [Lib.cell_of_heap hs]; rfl
          refine bodyPost_ret (v := .tuple #[.agg #[.slice none 0 0], errP aO]) (by simp [results, Tryd.results16, go_sem, hc0]) rfl ⟨?_, (HB8.out.setCell (p := ⟨w.heap.size, 0, none⟩) (Nat.le_refl _) _).drew⟩
          rw [HR.out]
          exact ⟨none, 0, rfl⟩
        · cases hfl
        · obtain ⟨σ, G, rt, E, c, p, cap, sl, ls, hr, h1, h2, h3, h4, h5, h6, h7, h8⟩ := hrest
          have HR := Lib.hid hr
          have HFd := Lib.hid (HFO.out V _ w1 w8 _ _ σ G rt E c p cap sl ls v8 h1 h2 h3 h4 h5 h6 h7 h8 hV (HZ.out σ hr) (by omega))
          clear hr h1 h2 h3 h4 h5 h6 h7 h8 e1 e2 e3 e4
          go_wp2_with (go_at_call 37; refine HFd.out.mono ?_)
          rintro e w9 hfd
          obtain ⟨⟨sv, d, he9, k1, k2⟩, hb9⟩ := hfd
          subst he9
          obtain ⟨sa, sc, hsv⟩ := k1.shape
          obtain ⟨dn, hdn⟩ : ∃ n, d.length = n := ⟨_, rfl⟩
          rw [hdn] at hsv
          subst hsv
          clear hdn
          have hx9 := (hb9.block w.heap.size (by rw [HS1.out]; omega)).trans HX8.out
          have z9 : w9.cell? ⟨w.heap.size, 0, none⟩ = some (.slice none 0 0) := by rw [Lib.cell_of_heap hx9]; rfl
          have zf9 := Lib.frozen_of_heap hx9 0
          have hwl9 : w.heap.size < w9.heap.size := (Array.getElem?_eq_some_iff.1 hx9).1
          have HK := Lib.hid (⟨k1.other (x := .slice sa dn sc) hx9, k2⟩ : SubAt (.slice sa dn sc) d (w9.setCell ⟨w.heap.size, 0, none⟩ (.slice sa dn sc)) ∧ IsSg d σ)
          have HB9 := Lib.hid ((HB8.out.trans (hb9.mono (by rw [HS1.out]; omega))).setCell (p := ⟨w.heap.size, 0, none⟩) (Nat.le_refl _) (.slice sa dn sc))
          have hs : (w9.setCell ⟨w.heap.size, 0, none⟩ (.slice sa dn sc)).heap[w.heap.size]? = some (.cells #[.slice sa dn sc] 33 (0, 0)) := blk_set (W := w9) (o := 0) hx9 (.slice sa dn sc)
          have hc0 : (w9.setCell ⟨w.heap.size, 0, none⟩ (.slice sa dn sc)).cell? ⟨w.heap.size, 0, none⟩ = some (.slice sa dn sc) := by rw [Lib.cell_of_heap hs]; rfl
          clear k1 k2 hb9 hx9 hs HFd
          go_wp2
          refine bodyPost_ret (v := .tuple #[.agg #[.slice sa dn sc], .nilIface]) (by simp [results, Tryd.results16, go_sem, hc0]) rfl ⟨?_, HB9.out⟩
          rw [HR.out]
          exact ⟨_, d, rfl, HK.out.1, HK.out.2⟩
end Go.Proofs.YthpphjkoiipkkaaDoor
/- The program's Unify, by a contract of found. -/
namespace Go.Proofs.YthpphjkoiipkkaaDoor
open Go.RowKit Go.Maps Go.Sort Go.Lib
attribute [local go_sem] Oper.semAt_some

/-- What is found is about these variables alone. -/
theorem uni_out {V : List ByteArray} : ∀ (f : Nat) (σ : Sg) (a b : T) (τ : Sg), uni f σ a b = some (.ok τ) → Idem σ → VIn V σ → TIn V a → TIn V b → (∀ x, x ∉ V → σ x = .var x) → VIn V τ ∧ ∀ x, x ∉ V → τ x = .var x
  | 0, _, _, _, _, h, _, _, _, _, _ => by cases h
  | f + 1, σ, a, b, τ, h, hi, hv, ha, hb, ho => by
    rw [uni] at h
    have hs := stepU_is (uni f) σ a b hi
    rw [h] at hs
    have ta := hv.sub ha
    have tb := hv.sub hb
    have hbind : ∀ {x : ByteArray} {u : T} {ρ : Sg}, Binds σ x u ρ → x ∈ V → TIn V u → VIn V ρ ∧ ∀ y, y ∉ V → ρ y = .var y := fun {x u ρ} hB hx hu => by
      refine ⟨hB.vin hv hu, fun y hy => ?_⟩
      rw [hB.new]
      show sub (one x u) (σ y) = _
      rw [ho y hy]
      exact one_ne _ fun e => hy (e ▸ hx)
    generalize hr : some (UR.ok τ) = q at hs
    cases hs with
    | same x e1 e2 =>
      simp only [Option.some.injEq, UR.ok.injEq] at hr
      subst hr; exact ⟨hv, ho⟩
    | left x ρ e1 hB =>
      simp only [Option.some.injEq, UR.ok.injEq] at hr
      subst hr
      exact hbind hB (ta x (by rw [e1]; simp [vs])) tb
    | leftIn => cases hr
    | right x ρ _ e2 hB =>
      simp only [Option.some.injEq, UR.ok.injEq] at hr
      subst hr
      exact hbind hB (tb x (by rw [e2]; simp [vs])) ta
    | rightIn => cases hr
    | parts h1 h2 h3 h4 h5 =>
      have key : ∀ (l m : List T) (σ : Sg) (τ : Sg), uniL (uni f) σ l m = some (.ok τ) → Idem σ → VIn V σ → (∀ k ∈ l, TIn V k) → (∀ k ∈ m, TIn V k) → (∀ x, x ∉ V → σ x = .var x) → VIn V τ ∧ ∀ x, x ∉ V → τ x = .var x := by
        intro l
        induction l with
        | nil =>
          intro m σ τ h _ hv _ _ ho
          simp only [uniL, Option.some.injEq, UR.ok.injEq] at h
          subst h; exact ⟨hv, ho⟩
        | cons c l ih =>
          intro m σ τ h hi hv hl hm ho
          cases m with
          | nil =>
            simp only [uniL, Option.some.injEq, UR.ok.injEq] at h
            subst h; exact ⟨hv, ho⟩
          | cons d m =>
            rw [uniL] at h
            cases hu : uni f σ c d with
            | none => rw [hu] at h; cases h
            | some q =>
              rw [hu] at h
              cases q with
              | bad e => cases h
              | ok ρ =>
                obtain ⟨k1, k2⟩ := uni_out f σ c d ρ hu hi hv (hl c (by simp)) (hm d (by simp)) ho
                exact ih m ρ τ h (uni_sound f σ c d ρ hu hi).1 k1 (fun k hk => hl k (List.mem_cons_of_mem _ hk)) (fun k hk => hm k (List.mem_cons_of_mem _ hk)) k2
      exact key _ _ σ τ hr.symm hi hv (fun k hk => ta.kid h1 hk) (fun k hk => tb.kid h2 hk) ho
    | bad => cases hr
theorem nodup_lenB {α : Type} [DecidableEq α] {l R : List α} (hn : l.Nodup) (hs : ∀ i ∈ l, i ∈ R) : l.length ≤ R.length := by
  induction l generalizing R with
  | nil => exact Nat.zero_le _
  | cons a l ih =>
    have hp := List.perm_cons_erase (hs a (by simp))
    have hn' := List.nodup_cons.1 hn
    have := ih (R := R.erase a) hn'.2 fun j hj => (List.mem_erase_of_ne (fun e => hn'.1 (by rw [← e]; exact hj))).2 (hs j (List.mem_cons_of_mem _ hj))
    rw [hp.length_eq, List.length_cons, List.length_cons]; omega
open Classical in
/-- Sorted pairs that say what was found: none twice, of these variables alone. -/
theorem pinv_of {S : USet} {τ : Sg} {d : List PR} (hd : Neat d) (hs : IsSg d τ) (hi : ∀ x, x ∉ S.V → τ x = .var x) : PInv S d τ := by
  have hx : ∀ x ∈ d, x.t = τ x.n ∧ x.n ∈ S.V ∧ ¬ τ x.n = .var x.n := fun x hx => by
    have e1 : x.t = τ x.n := by rw [← hs x.n, ty_some (lk_sorted hd.1 hx)]
    have e2 : ¬ τ x.n = .var x.n := fun e => by
      have := hd.2 x hx
      rw [ownP_iff.2 (e1.trans e)] at this; cases this
    refine ⟨e1, ?_, e2⟩
    by_cases h : x.n ∈ S.V
    · exact h
    · exact absurd (hi _ h) e2
  refine ⟨hs, fun x h => ⟨(hx x h).2.1, (hx x h).1⟩, ?_⟩
  have hn : (d.map PR.n).Nodup := by
    refine List.pairwise_map.2 (hd.1.imp ?_)
    intro a b hab e
    rw [cmp_of_name e] at hab; exact absurd hab (by omega)
  have h1 := nodup_lenB (l := d.map PR.n) (R := S.V.filter fun x => !decide (τ x = .var x)) hn fun n hm => by
    obtain ⟨x, h, rfl⟩ := List.mem_map.1 hm
    rw [List.mem_filter]
    exact ⟨(hx x h).2.1, by simp [(hx x h).2.2]⟩
  have h2 : ∀ V : List ByteArray, (V.filter fun x => decide (τ x = .var x)).length + (V.filter fun x => !decide (τ x = .var x)).length = V.length := by
    intro V
    induction V with
    | nil => rfl
    | cons a V ih =>
      rw [List.filter_cons, List.filter_cons]
      by_cases e : τ a = .var a <;> simp [e] <;> omega
  have h3 := h2 S.V
  rw [List.length_map] at h1
  unfold uns
  omega
set_option maxRecDepth 100000 in
set_option maxHeartbeats 4000000 in
theorem puni (HF : FoundOK) : PUni := by
  intro S hV a b r pa pb ca cb w aT aO hu oa ob oP hE hTa hTb
  obtain ⟨f, hf⟩ := hu
  have hr : ∀ σ, r = .ok σ → (∀ x ∈ S.V, tsize (σ x) ≤ 900000000) ∧ ∀ x, x ∉ S.V → σ x = .var x := fun σ e => by
    subst e
    exact ⟨fun x hx => (Uni.inv ⟨f, hf⟩ (uinv_var S) (.of oa) (.of ob) oP).1.var_le hx, (uni_out f T.var a b σ hf idem_var (vin_var _) (S.tin a oa) (S.tin b ob) fun _ _ => rfl).2⟩
  have hU : UniAll T.var (plainP [((a, pa, ca), (b, pb, cb))]) r := by
    cases r with
    | ok τ => exact .cons _ τ _ _ _ _ ⟨f, hf⟩ (.nil _)
    | bad e => exact .bad _ _ _ _ e ⟨f, hf⟩
  have hza := S.sz a oa; have hzb := S.sz b ob
  have HA := Lib.hid (fun (V : World) (v : Value) (hb : Below w.heap.size w V) (hv : P2At v [((a, pa, ca), (b, pb, cb))] V) => all_any HF S.V (by omega) [((a, pa, ca), (b, pb, cb))] (by simp) (by simp) r v V aT aO hU (by simp [plainP, tsumP]; omega) (fun x hx => by
    obtain rfl : x = ((a, pa, ca), (b, pb, cb)) := by simpa using hx
    exact ⟨⟨S.plain a oa, fun y hy => ⟨S.nm y (S.tin a oa y hy), S.tin a oa y hy⟩⟩, ⟨S.plain b ob, fun y hy => ⟨S.nm y (S.tin b ob y hy), S.tin b ob y hy⟩⟩⟩) (fun σ e => (hr σ e).1) (hE.below hb) hv)
  have hb4 : ∀ o1 o2 o3 o4 : Obj, Below w.heap.size w ((((w.alloc o1).alloc o2).alloc o3).alloc o4) := fun o1 o2 o3 o4 => ((((Below.refl w.heap.size w).alloc (Nat.le_refl _) o1).alloc (by simp) o2).alloc (by simp; omega) o3).alloc (by simp; omega) o4
  have hn4 : ∀ o1 o2 o3 o4 : Obj, ((((w.alloc o1).alloc o2).alloc o3).alloc o4).heap[w.heap.size + 1 + 1 + 1]? = some o4 := fun o1 o2 o3 o4 => by
    have := alloc_new (((w.alloc o1).alloc o2).alloc o3) o4
    simpa using this
  have hn3 : ∀ o1 o2 o3 o4 : Obj, ((((w.alloc o1).alloc o2).alloc o3).alloc o4).heap[w.heap.size + 1 + 1]? = some o3 := fun o1 o2 o3 o4 => by
    rw [Below.heap_alloc _ _ _ (by simp)]
    have := alloc_new ((w.alloc o1).alloc o2) o3
    simpa using this
  have HB4 := Lib.hid hb4; have HN4 := Lib.hid hn4; have HN3 := Lib.hid hn3
  have HP := Lib.hid (fun (V : World) (g : Nat) (hb : Below w.heap.size w V) (hg : V.heap[g]? = some (.cells #[.int .i64 a.kind, .string a.name, .slice pa a.kids.length ca, .int .i64 b.kind, .string b.name, .slice pb b.kids.length cb] 45 (0, 0))) => (show P2At (.slice (some ⟨g, 0, none⟩) 1 1) [((a, pa, ca), (b, pb, cb))] V from by
    refine ⟨_, 1, rfl, Nat.le_refl _, fun i hi => ?_⟩
    obtain rfl : i = 0 := by simp at hi; omega
    refine ⟨g, rfl, (Array.getElem?_eq_some_iff.1 hg).1, ⟨⟨?_, ?_, ?_⟩, ⟨?_, ?_, ?_⟩⟩, hTa.keep (.of_below hb), hTb.keep (.of_below hb)⟩ <;> (rw [Lib.cell_of_heap hg]; rfl)))
  clear hb4 hn4 hn3
  have HR := Lib.hid hr
  have HTa := Lib.hid hTa; have HTb := Lib.hid hTb
  clear hU hr hE hTa hTb hf oa ob oP hza hzb HF
  go_enter Tryd.func10, Tryd.ntmps10
  go_wp2_with (go_at_call 16; refine (HA.out _ _ (HB4.out _ _ _ _) (HP.out _ _ (HB4.out _ _ _ _) (HN4.out _ _ _ _))).mono ?_)
  rintro e w5 ⟨hr5, hb5⟩
  have hc := (hb5.block (w.heap.size + 1 + 1) (by simp <;> omega)).trans (HN3.out _ _ _ _)
  have HC := Lib.hid hc
  have c0 : w5.cell? ⟨w.heap.size + 1 + 1, 0, none⟩ = some (.slice none 0 0) := by rw [Lib.cell_of_heap hc]; rfl
  have u0 := Lib.frozen_of_heap hc 0
  have hcl := (Array.getElem?_eq_some_iff.1 hc).1
  have HB5 := Lib.hid ((HB4.out _ _ _ _).trans (hb5.mono (by simp <;> omega)))
  clear hb5 HA HP HB4 HN4 HN3
  cases r with
  | ok τ =>
    obtain ⟨sv, d, rfl, hsv, hd⟩ := hr5
    obtain ⟨x, n, y, rfl⟩ : ∃ x n y, sv = .slice x n y := by
      rcases hsv.1.1 with ⟨_, x, y, e, _⟩ | ⟨q, k, e, _⟩
      · exact ⟨x, 0, y, e⟩
      · exact ⟨_, _, k, e⟩
    have HSV := Lib.hid hsv; have HD := Lib.hid hd
    clear hsv hd hc
    go_wp2
    have hk : (w5.setCell ⟨w.heap.size + 1 + 1, 0, none⟩ (.slice x n y)).cell? ⟨w.heap.size + 1 + 1, 0, none⟩ = some (.slice x n y) := by rw [Lib.cell_of_heap (blk_set (o := 0) HC.out (.slice x n y))]; rfl
    refine bodyPost_ret (v := .tuple #[.agg #[.slice x n y], .nilIface]) (by simp [results, Tryd.results10, go_sem, hk]) rfl ⟨⟨.slice x n y, d, rfl, HSV.out.other HC.out, pinv_of HSV.out.1.2 HD.out (HR.out τ rfl).2⟩, HB5.out.setCell (p := ⟨w.heap.size + 1 + 1, 0, none⟩) (by show w.heap.size ≤ w.heap.size + 1 + 1; omega) _⟩
  | bad e =>
    obtain ⟨x, y, rfl⟩ := hr5
    clear hc
    cases e <;> go_wp2
    · have hk : (w5.setCell ⟨w.heap.size + 1 + 1, 0, none⟩ (.slice x 0 y)).cell? ⟨w.heap.size + 1 + 1, 0, none⟩ = some (.slice x 0 y) := by rw [Lib.cell_of_heap (blk_set (o := 0) HC.out (.slice x 0 y))]; rfl
      refine bodyPost_ret (v := .tuple #[.agg #[.slice x 0 y], errP (if false then aO else aT)]) (by simp [results, Tryd.results10, go_sem, hk]) rfl ⟨⟨x, y, rfl⟩, HB5.out.setCell (p := ⟨w.heap.size + 1 + 1, 0, none⟩) (by show w.heap.size ≤ w.heap.size + 1 + 1; omega) _⟩
    · have hk : (w5.setCell ⟨w.heap.size + 1 + 1, 0, none⟩ (.slice x 0 y)).cell? ⟨w.heap.size + 1 + 1, 0, none⟩ = some (.slice x 0 y) := by rw [Lib.cell_of_heap (blk_set (o := 0) HC.out (.slice x 0 y))]; rfl
      refine bodyPost_ret (v := .tuple #[.agg #[.slice x 0 y], errP (if true then aO else aT)]) (by simp [results, Tryd.results10, go_sem, hk]) rfl ⟨⟨x, y, rfl⟩, HB5.out.setCell (p := ⟨w.heap.size + 1 + 1, 0, none⟩) (by show w.heap.size ≤ w.heap.size + 1 + 1; omega) _⟩
end Go.Proofs.YthpphjkoiipkkaaDoor
/- found: the list of pairs that it makes, as plain data. -/
namespace Go.Proofs.YthpphjkoiipkkaaDoor

/-- What the list of pairs says behind k parts. -/
structure PL (G : Gr) (σ : Sg) (k : Nat) (d : List PR) : Prop where
  mem : ∀ x ∈ d, x.t = σ x.n ∧ ∃ i, i < k ∧ G.tr i = .var x.n
  all : ∀ i, i < k → ∀ n, G.tr i = .var n → ∃ x ∈ d, x.n = n
  one : (d.map PR.n).Nodup
theorem PL.start (G : Gr) (σ : Sg) : PL G σ 0 [] := ⟨(fun _ hx => nomatch hx), fun _ hi => absurd hi (Nat.not_lt_zero _), List.nodup_nil⟩
theorem PL.skip {G : Gr} {σ : Sg} {k : Nat} {d : List PR} (h : PL G σ k d) (hv : (G.tr k).isV = false) : PL G σ (k + 1) d := by
  refine ⟨fun x hx => ?_, fun i hi n e => ?_, h.one⟩
  · obtain ⟨h1, i, h2, h3⟩ := h.mem x hx
    exact ⟨h1, i, by omega, h3⟩
  · by_cases hk : i = k
    · subst hk; rw [e] at hv; simp [T.isV] at hv
    · exact h.all i (by omega) n e
theorem PL.next {G : Gr} {σ : Sg} {k : Nat} {d : List PR} (h : PL G σ k d) (ok : G.OK) (hk : k < G.N) {x : PR} (hx : G.tr k = .var x.n) (ht : x.t = σ x.n) : PL G σ (k + 1) (d ++ [x]) := by
  refine ⟨fun y hy => ?_, fun i hi n e => ?_, ?_⟩
  · rcases List.mem_append.1 hy with hy | hy
    · obtain ⟨h1, i, h2, h3⟩ := h.mem y hy
      exact ⟨h1, i, by omega, h3⟩
    · obtain rfl := List.mem_singleton.1 hy
      exact ⟨ht, k, by omega, hx⟩
  · by_cases hik : i = k
    · subst hik
      refine ⟨x, by simp, ?_⟩
      rw [hx] at e; injection e
    · obtain ⟨y, hy, e2⟩ := h.all i (by omega) n e
      exact ⟨y, by simp [hy], e2⟩
  · rw [List.map_append, List.nodup_append]
    refine ⟨h.one, by simp, fun a ha b hb e => ?_⟩
    obtain ⟨y, hy, rfl⟩ := List.mem_map.1 ha
    obtain rfl : b = x.n := by simpa using hb
    obtain ⟨_, i, h2, h3⟩ := h.mem y hy
    have := ok.vars i k (by omega) hk (by rw [h3]; rfl) (by rw [h3, hx, e])
    omega
theorem PL.isSg {G : Gr} {σ : Sg} {d : List PR} (h : PL G σ G.N d) (hout : ∀ x, (∀ i, i < G.N → G.tr i ≠ .var x) → σ x = .var x) : IsSg d σ := by
  intro n
  unfold ty
  cases e : lk n d with
  | some x =>
    obtain ⟨hx, rfl⟩ := lk_name e
    exact (h.mem x hx).1
  | none =>
    refine (hout n fun i hi ht => ?_).symm
    obtain ⟨x, hx, hn⟩ := h.all i hi n ht
    unfold lk at e
    have := List.find?_eq_none.1 e x hx
    simp [hn] at this
theorem PL.small {G : Gr} {σ : Sg} {d : List PR} {V : List ByteArray} {k : Nat} (h : PL G σ k d) (hk : k ≤ G.N) (hV : VarIn V G) : d.length ≤ V.length := by
  have := nodup_lenB (l := d.map PR.n) (R := V) h.one (fun n hn => by
    obtain ⟨x, hx, rfl⟩ := List.mem_map.1 hn
    obtain ⟨_, i, h2, h3⟩ := h.mem x hx
    exact hV i (by omega) x.n (by rw [h3]; simp [vs]))
  simpa using this
theorem PL.inV {G : Gr} {σ : Sg} {d : List PR} {V : List ByteArray} {k : Nat} (h : PL G σ k d) (hk : k ≤ G.N) (hV : VarIn V G) : ∀ x ∈ d, x.n ∈ V := fun x hx => by
  obtain ⟨_, i, h2, h3⟩ := h.mem x hx
  exact hV i (by omega) x.n (by rw [h3]; simp [vs])
end Go.Proofs.YthpphjkoiipkkaaDoor
