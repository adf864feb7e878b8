/- Merged: UfRBind, UfRUni, UfRAll. -/
import Derived.Test.YthpphjkoiipkkaaDoorUm15
import Derived.Stop.RegionWithIn
/- The document's bind. -/
namespace Go.Proofs.YthpphjkoiipkkaaDoor
open Go.RowKit Go.Sort Go.Lib
attribute [local go_sem] Oper.semAt_some

theorem givenG_one {T : TypeId} {w : World} {b : Nat} (x : PR) (h : w.heap[b]? = some (.cells #[.string x.n, .int .i64 x.t.kind, .string x.t.name, .slice x.a x.t.kids.length x.c] T (0, 0))) : GivenG T (.slice (some ⟨b, 0, none⟩) 1 1) [x] w := by
  refine .inr ⟨by simp, b, 1, rfl, _, h, by simp, fun i hi => ?_⟩
  obtain rfl : i = 0 := by simpa using hi
  exact ⟨rfl, rfl, rfl, rfl⟩
theorem vars_in {t : T} (h : NoAll t) (n : ByteArray) : inB (fvs [] [] [t]) n = true ↔ n ∈ vs t := by
  rw [inB_iff, fvs_mem, ← h n]
  simp [hasTs]
theorem fv_lens : (∀ t : T, ∀ bd out : List ByteArray, (fv bd out t).length ≤ out.length + tsize t) ∧ ∀ l : List T, ∀ bd out : List ByteArray, (fvs bd out l).length ≤ out.length + tsizes l := by
  have key : ∀ t : T, ∀ bd out : List ByteArray, (fv bd out t).length ≤ out.length + tsize t := by
    refine T.kidsInd fun t ih bd out => ?_
    have hl : ∀ l : List T, (∀ k ∈ l, k ∈ t.kids) → ∀ bd out : List ByteArray, (fvs bd out l).length ≤ out.length + tsizes l := by
      intro l
      induction l with
      | nil => intro _ bd out; simp [fvs, tsizes]
      | cons a l ih2 =>
        intro hk bd out
        have h1 := ih a (hk a (by simp)) bd out
        have h2 := ih2 (fun k h => hk k (List.mem_cons_of_mem _ h)) bd (fv bd out a)
        rw [fvs, tsizes]; omega
    cases t with
    | var n => rw [fv]; split <;> simp [tsize]
    | con n l => rw [fv, tsize]; have := hl l (fun k h => h) bd out; omega
    | fn a b =>
      have h1 := ih a (by simp [T.kids]) bd out
      have h2 := ih b (by simp [T.kids]) bd (fv bd out a)
      rw [fv, tsize]; omega
    | all n a =>
      have h1 := ih a (by simp [T.kids]) (n :: bd) out
      rw [fv, tsize]; omega
  refine ⟨key, fun l => ?_⟩
  induction l with
  | nil => intro bd out; simp [fvs, tsizes]
  | cons a l ih =>
    intro bd out
    have h1 := key a bd out
    have h2 := ih bd (fv bd out a)
    rw [fvs, tsizes]; omega
set_option maxRecDepth 100000 in
set_option maxHeartbeats 2000000 in
theorem rbind_any (sv : Value) (d : List PR) (n : ByteArray) (t : T) (a : Option Addr) (c : Nat) (w : World) (hd : GivenG 53 sv d w) (td : Typ d w) (ht : TysAt w (.slice a t.kids.length c) t.kids) (hl : d.length < 1000) (hq : ∀ x ∈ d, tsize x.t ≤ 1000000000) (hs : tsize t ≤ 900000000) (hp : Plain3 t) :
    Calls Tryd.prog 40 #[sv, .string n, .agg #[.int .i64 t.kind, .string t.name, .slice a t.kids.length c]] w fun E w' => ((n ∈ vs t ∧ E = .returned (.tuple #[.slice none 0 0, .int .i64 107])) ∨ (n ∉ vs t ∧ ∃ v q, E = .returned (.tuple #[v, .int .i64 0]) ∧ GivenG 53 v q w' ∧ Typ q w' ∧ q.map nt = (thenR d [⟨n, t, a, c⟩]).map nt)) ∧ Below w.heap.size w w' := by
  have HV := Lib.hid (vars_in hp.no n)
  have hlen := fv_lens.2 [t] [] []
  have hlen2 : (fvs [] [] [t]).length ≤ 1000000000 := by simp [tsizes] at hlen; omega
  have HD := Lib.hid hd; have HTd := Lib.hid td; have HT := Lib.hid ht; have HQ := Lib.hid hq
  have HB2 := Lib.hid (fun o1 o2 => below_two w o1 o2)
  have hone : ∀ o, TysAt ((w.alloc o).alloc (.cells #[.int .i64 t.kind, .string t.name, .slice a t.kids.length c] 29)) (.slice (some ⟨w.heap.size + 1, 0, none⟩) 1 1) [t] := fun o => TysAt.one (by simp) (TyAt.mk t (ht.keep (keepT_alloc w o)))
  have HVars := Lib.hid (fun (o : Obj) => rVars_any [t] (by simp [tsizes]; omega) _ _ _ (hone o))
  obtain ⟨sa, sc, rfl, _⟩ := hd.shape
  have HB1 := Lib.hid (fun o => (Below.refl _ w).alloc (Nat.le_refl _) o)
  clear hd td ht hq hone hp
  go_enter Tryd.func40, Tryd.ntmps40
  go_wp2_with (go_at_call 56; refine (HVars.out _).mono ?_)
  rintro E w2 ⟨⟨v, rfl, hv⟩, hb2⟩
  obtain ⟨va, vc, rfl⟩ := hv.shape
  have hbx := (hb2.block w.heap.size (by simp; omega)).trans ((Below.heap_alloc _ _ _ (by simp)).trans (alloc_new w _))
  obtain ⟨z0, z1, z2⟩ := three_cells hbx
  have lz := (Array.getElem?_eq_some_iff.1 hbx).1
  have HBW := Lib.hid ((HB2.out _ _).trans (hb2.mono (by simp; omega)))
  have HF := Lib.hid (hasR_any _ hlen2 n va vc w2 hv)
  clear hv hb2 hbx HVars
  by_cases hn : n ∈ vs t
  · have hin := HV.out.2 hn
    rw [hin] at HF
    clear hin HV
    go_wp2_with (go_at_call 55; refine HF.out.mono ?_; rintro E w3 ⟨rfl, rfl⟩)
    exact bodyPost_ret (v := .tuple #[.slice none 0 0, .int .i64 107]) (by simp [results, Tryd.results40, go_sem]) rfl ⟨.inl ⟨hn, rfl⟩, HBW.out⟩
  · have hin : inB (fvs [] [] [t]) n = false := by
      cases h : inB (fvs [] [] [t]) n with
      | false => rfl
      | true => exact absurd (HV.out.1 h) hn
    rw [hin] at HF
    have HThen := Lib.hid (fun (o : Obj) (ho : o = .cells #[.string n, .int .i64 t.kind, .string t.name, .slice a t.kids.length c] 53 (0, 0)) =>
      rthen_any (.slice sa d.length sc) (.slice (some ⟨w2.heap.size, 0, none⟩) 1 1) d [⟨n, t, a, c⟩] (w2.alloc o) hl (by simp) ((HD.out.below HBW.out).below ((Below.refl _ w2).alloc (Nat.le_refl _) o)) (givenG_one ⟨n, t, a, c⟩ (by rw [ho]; exact alloc_new w2 _))
        ((HTd.out.keep (KeepT.of_below HBW.out)).keep (keepT_alloc w2 o)) (fun x hx => by obtain rfl := List.mem_singleton.1 hx; exact (HT.out.keep (KeepT.of_below HBW.out)).keep (keepT_alloc w2 o)) HQ.out)
    clear hin HV
    go_wp2_with (first
      | (go_at_call 55; refine HF.out.mono ?_; rintro E w3 ⟨rfl, rfl⟩)
      | (go_at_call 57; refine (HThen.out _ rfl).mono ?_; rintro E w4 ⟨⟨v4, q4, rfl, g1, g2, g3⟩, hb4⟩; have G1 := Lib.hid g1; have G2 := Lib.hid g2; have G3 := Lib.hid g3; have HB4 := Lib.hid ((HBW.out.alloc HBW.out.size _).trans (hb4.mono (by have := HBW.out.size; simp; omega))); clear g1 g2 g3 hb4))
    exact bodyPost_ret (v := .tuple #[v4, .int .i64 0]) (by simp [results, Tryd.results40, go_sem]) rfl ⟨.inr ⟨hn, _, _, rfl, G1.out, G2.out, G3.out⟩, HB4.out⟩
end Go.Proofs.YthpphjkoiipkkaaDoor
/- The document's unify. -/
namespace Go.Proofs.YthpphjkoiipkkaaDoor
open Go.RowKit Go.Sort Go.Lib
attribute [local go_sem] Oper.semAt_some

/-- What the document's unify tells. -/
def RRes (S : USet) (r : UR) (E : Ending) (w' : World) : Prop :=
  match r with
  | .ok τ => ∃ v q, E = .returned (.tuple #[v, .int .i64 0]) ∧ GivenG 53 v q w' ∧ Typ q w' ∧ PInv S q τ
  | .bad e => E = .returned (.tuple #[.slice none 0 0, .int .i64 (if e then 107 else 106)])
def RUni (S : USet) (f : Nat) : Prop := ∀ (σ : Sg) (d : List PR) (a b : T) (r : UR) (sv : Value) (pa pb : Option Addr) (ca cb : Nat) (w : World), uni f σ a b = some r → UInv S σ → UArg S σ a → UArg S σ b → S.P a b → PInv S d σ → GivenG 53 sv d w → Typ d w → TysAt w (.slice pa a.kids.length ca) a.kids → TysAt w (.slice pb b.kids.length cb) b.kids →
  Calls Tryd.prog 27 #[sv, .agg #[.int .i64 a.kind, .string a.name, .slice pa a.kids.length ca], .agg #[.int .i64 b.kind, .string b.name, .slice pb b.kids.length cb]] w fun E w' => RRes S r E w' ∧ Below w.heap.size w w'
theorem isV_kind {t : T} : t.isV = true ↔ t.kind = 1 := by cases t <;> simp [T.isV, T.kind]
theorem not_var {t : T} (h : t.isV = false) : ¬ t.kind = 1 := fun e => by rw [isV_kind.2 e] at h; cases h
/-- Apply, called where two boxes lie at the end. -/
theorem rapp_at {d : List PR} {t u : T} {sv : Value} {a : Option Addr} {c : Nat} {w : World} (hl : d.length < 1000000) (hd : GivenG 53 sv d w) (td : Typ d w) (ht : TysAt w (.slice a t.kids.length c) t.kids) (hz : tsize t ≤ 1000000000) (e : app d t = u) (V : World) (hb : Below w.heap.size w V) (hs : w.heap.size + 2 ≤ V.heap.size) :
    Calls Tryd.prog 15 #[sv, .agg #[.int .i64 t.kind, .string t.name, .slice a t.kids.length c]] V fun E w' => (∃ za zc, E = .returned (.agg #[.int .i64 u.kind, .string u.name, .slice za u.kids.length zc]) ∧ TyIn (fun k => k ≠ w.heap.size ∧ k ≠ w.heap.size + 1) w' u (.slice za u.kids.length zc)) ∧ Below V.heap.size V w' := by
  subst e
  have lt : ∀ (k : Nat) (cs : Array Value) (fz : Nat × Nat), w.heap[k]? = some (.cells cs 29 fz) → k < w.heap.size := fun k _ _ hk => (Array.getElem?_eq_some_iff.1 hk).1
  have kp : ∀ {t : T} {v : Value}, TyIn (fun k => k < w.heap.size) w t v → TyIn (fun k => k < w.heap.size) V t v := fun h => h.keep fun k _ _ hk hh => (hb.block k hk).trans hh
  refine (rapp_ok d hl t w.heap.size sv a c V ⟨hd.below hb, fun x hx => kp ((td x hx).inside lt), by omega⟩ (kp (ht.inside lt)) hz).mono ?_
  rintro E w' ⟨⟨za, zc, rfl, hin⟩, hb'⟩
  exact ⟨⟨za, zc, rfl, hin.mono fun k hk => by rcases hk with hk | hk <;> omega⟩, hb'⟩
theorem TyIn.far {B : Nat} {w W : World} {t : T} {v : Value} (h : TyIn (fun k => k ≠ B ∧ k ≠ B + 1) w t v) (hk : ∀ k, k ≠ B → k ≠ B + 1 → W.heap[k]? = w.heap[k]?) : TyIn (fun k => k ≠ B ∧ k ≠ B + 1) W t v := h.keep fun k _ _ hh hx => (hk k hh.1 hh.2).trans hx
/-- Both types applied, in their boxes. -/
def UBox (w : World) (u v : T) (ku kv : Int) (ua va : Option Addr) (uc vc : Nat) (W : World) : Prop :=
  (W.heap[w.heap.size]? = some (.cells #[.int .i64 ku, .string u.name, .slice ua u.kids.length uc] 29 (0, 0)) ∧ W.heap[w.heap.size + 1]? = some (.cells #[.int .i64 kv, .string v.name, .slice va v.kids.length vc] 29 (0, 0))) ∧
  (TysAt W (.slice ua u.kids.length uc) u.kids ∧ TysAt W (.slice va v.kids.length vc) v.kids) ∧ Below w.heap.size w W
theorem UBox.below {w : World} {u v : T} {ku kv : Int} {ua va : Option Addr} {uc vc : Nat} {W Y : World} (h : UBox w u v ku kv ua va uc vc W) (hb : Below W.heap.size W Y) : UBox w u v ku kv ua va uc vc Y := by
  obtain ⟨⟨h1, h2⟩, ⟨h3, h4⟩, h5⟩ := h
  have l1 := (Array.getElem?_eq_some_iff.1 h1).1
  have l2 := (Array.getElem?_eq_some_iff.1 h2).1
  exact ⟨⟨(hb.block _ l1).trans h1, (hb.block _ l2).trans h2⟩, ⟨h3.keep (KeepT.of_below hb), h4.keep (KeepT.of_below hb)⟩, h5.trans (hb.mono h5.size)⟩
theorem first_store {w w2 : World} {x y z : Value} {o : Obj} (hb : Below ((w.alloc (.cells #[x, y, z] 29)).alloc o).heap.size ((w.alloc (.cells #[x, y, z] 29)).alloc o) w2) :
    w2.heap[w.heap.size]? = some (.cells #[x, y, z] 29 (0, 0)) ∧ w2.heap[w.heap.size + 1]? = some o ∧ Below w.heap.size w w2 := by
  refine ⟨(hb.block _ (by simp; omega)).trans ((Below.heap_alloc _ _ _ (by simp)).trans (alloc_new w _)), (hb.block _ (by simp)).trans (new_two w _ _), (below_two w _ _).trans (hb.mono (by simp; omega))⟩
theorem ubox_of {w X w3 : World} {u v : T} {ku kv : Int} {ua va : Option Addr} {uc vc : Nat} {x y z : Value} (hA : X.heap[w.heap.size]? = some (.cells #[.int .i64 ku, .string u.name, .slice ua u.kids.length uc] 29 (0, 0))) (hB : X.heap[w.heap.size + 1]? = some (.cells #[x, y, z] 29 (0, 0)))
    (hu : TyIn (fun k => k ≠ w.heap.size ∧ k ≠ w.heap.size + 1) X u (.slice ua u.kids.length uc)) (hbX : Below w.heap.size w X) (hb : Below X.heap.size X w3) (hv : TyIn (fun k => k ≠ w.heap.size ∧ k ≠ w.heap.size + 1) w3 v (.slice va v.kids.length vc)) :
    UBox w u v ku kv ua va uc vc (((w3.setCell ⟨w.heap.size + 1, 0, none⟩ (.int .i64 kv)).setCell ⟨w.heap.size + 1, 1, none⟩ (.string v.name)).setCell ⟨w.heap.size + 1, 2, none⟩ (.slice va v.kids.length vc)) := by
  have lA := (Array.getElem?_eq_some_iff.1 hA).1
  have lB := (Array.getElem?_eq_some_iff.1 hB).1
  have hot : ∀ k, k ≠ w.heap.size + 1 → (((w3.setCell ⟨w.heap.size + 1, 0, none⟩ (.int .i64 kv)).setCell ⟨w.heap.size + 1, 1, none⟩ (.string v.name)).setCell ⟨w.heap.size + 1, 2, none⟩ (.slice va v.kids.length vc)).heap[k]? = w3.heap[k]? := fun k hk => set3_others _ _ _ hk
  refine ⟨⟨(hot _ (by omega)).trans ((hb.block _ lA).trans hA), set3_block ((hb.block _ lB).trans hB) _ _ _⟩, ⟨?_, ?_⟩, below_set3 (hbX.trans (hb.mono hbX.size)) (Nat.le_succ _) _ _ _⟩
  · exact ((hu.keep fun k _ _ _ hh => (hb.block k (Array.getElem?_eq_some_iff.1 hh).1).trans hh).far fun k _ h2 => hot k h2).tys
  · exact (hv.far fun k _ h2 => hot k h2).tys
/-- What one step is, by the two types' kinds and names. -/
inductive UCase (S : USet) (f : Nat) (σ : Sg) (a b u v : T) (r : UR) : Prop where
  | same : u.kind = 1 → v.kind = 1 → u.name = v.name → r = .ok σ → UCase S f σ a b u v r
  | left (τ : Sg) : u.kind = 1 → u.name ∉ vs v → (v.kind = 1 → u.name ≠ v.name) → Binds σ u.name v τ → u.name ∈ S.V → r = .ok τ → UCase S f σ a b u v r
  | leftIn : u.kind = 1 → u.name ∈ vs v → ¬ v.kind = 1 → r = .bad true → UCase S f σ a b u v r
  | right (τ : Sg) : ¬ u.kind = 1 → v.kind = 1 → v.name ∉ vs u → Binds σ v.name u τ → v.name ∈ S.V → r = .ok τ → UCase S f σ a b u v r
  | rightIn : ¬ u.kind = 1 → v.kind = 1 → v.name ∈ vs u → r = .bad true → UCase S f σ a b u v r
  | parts : ¬ u.kind = 1 → ¬ v.kind = 1 → u.kind = v.kind → u.name = v.name → u.kids.length = v.kids.length → uniL (uni f) σ u.kids v.kids = some r → (∀ k ∈ u.kids, UArg S σ k) → (∀ k ∈ v.kids, UArg S σ k) → (∀ i (h1 : i < u.kids.length) (h2 : i < v.kids.length), S.P u.kids[i] v.kids[i]) → UCase S f σ a b u v r
  | kinds : ¬ u.kind = 1 → ¬ v.kind = 1 → ¬ u.kind = v.kind → r = .bad false → UCase S f σ a b u v r
  | names : ¬ u.kind = 1 → ¬ v.kind = 1 → u.kind = v.kind → ¬ u.name = v.name → r = .bad false → UCase S f σ a b u v r
  | many : ¬ u.kind = 1 → ¬ v.kind = 1 → u.kind = v.kind → u.name = v.name → ¬ u.kids.length = v.kids.length → r = .bad false → UCase S f σ a b u v r
theorem ucase {S : USet} {f : Nat} {σ : Sg} {a b : T} {r : UR} (h : uni (f + 1) σ a b = some r) (hi : UInv S σ) (ha : UArg S σ a) (hb : UArg S σ b) (hP : S.P a b) : UCase S f σ a b (sub σ a) (sub σ b) r := by
  rw [uni] at h
  have hs := stepU_is (uni f) σ a b hi.idem
  rw [h] at hs
  have ta := ha.tin hi
  have tb := hb.tin hi
  generalize hr : some r = q at hs
  cases hs with
  | same x e1 e2 =>
    injection hr with hr
    rw [e1, e2]; exact .same rfl rfl rfl hr
  | left x τ e1 h1 =>
    injection hr with hr
    have hx : x ∈ S.V := ta x (by rw [e1]; simp [vs])
    have h2 := h1.out
    rw [e1]
    refine .left τ rfl h2 (fun hk e => h2 ?_) h1 hx hr
    rw [isV_var (isV_kind.2 hk), ← e]; simp [vs, T.name]
  | leftIn x e1 h1 h2 =>
    injection hr with hr
    rw [e1]; exact .leftIn rfl h1 (not_var h2) hr
  | right x τ h1 e2 h2 =>
    injection hr with hr
    have hx : x ∈ S.V := tb x (by rw [e2]; simp [vs])
    rw [e2]; exact .right τ (not_var h1) rfl h2.out h2 hx hr
  | rightIn x h1 e2 h2 =>
    injection hr with hr
    rw [e2]; exact .rightIn (not_var h1) rfl h2 hr
  | parts h1 h2 h3 h4 h5 => exact .parts (not_var h1) (not_var h2) h3 h4 h5 hr.symm (fun k hk => ha.kid hi h1 hk) (fun k hk => hb.kid hi h2 hk) (fun i k1 k2 => S.kids _ _ (S.at σ a b hi.good hP) h1 h2 h5 i k1 k2)
  | bad h1 h2 hn =>
    injection hr with hr
    by_cases c1 : (sub σ a).kind = (sub σ b).kind
    · by_cases c2 : (sub σ a).name = (sub σ b).name
      · exact .many (not_var h1) (not_var h2) c1 c2 (fun c3 => hn ⟨c1, c2, c3⟩) hr
      · exact .names (not_var h1) (not_var h2) c1 c2 hr
    · exact .kinds (not_var h1) (not_var h2) c1 hr
theorem pinv_then {S : USet} {d q : List PR} {σ τ : Sg} {p : PR} (h : PInv S d σ) (hb : Binds σ p.n p.t τ) (hx : p.n ∈ S.V) (g : q.map nt = (thenR d [p]).map nt) : PInv S q τ := by
  refine h.bind hb hx (fun y hy => ?_) ?_ fun n => (ty_nt n g).trans (thenR_ty d [p] n)
  · have h1 : nt y ∈ (thenR d [p]).map nt := by rw [← g]; exact List.mem_map.2 ⟨y, hy, rfl⟩
    obtain ⟨z, hz, e⟩ := List.mem_map.1 h1
    simp only [nt, Prod.mk.injEq] at e
    rcases List.mem_append.1 hz with hz | hz
    · obtain ⟨x, hx', rfl⟩ := List.mem_map.1 hz
      exact .inl ⟨x, hx', e.1.symm, e.2.symm⟩
    · obtain rfl := List.mem_singleton.1 (List.mem_filter.1 hz).1
      exact .inr ⟨e.1.symm, e.2.symm⟩
  · have h1 := congrArg List.length g
    simp only [List.length_map] at h1
    rw [h1, thenR, List.length_append, List.length_map]
    have := List.length_filter_le (fun y => (lk y.n d).isNone) [p]
    simp only [List.length_singleton] at this
    omega
theorem uinv_next {S : USet} {f : Nat} {ρ τ : Sg} {a b : T} (h : uni f ρ a b = some (.ok τ)) (hi : UInv S ρ) (ha : UArg S ρ a) (hb : UArg S ρ b) (hP : S.P a b) : UInv S τ ∧ ExtU ρ τ := by
  obtain ⟨h1, h2, _⟩ := uni_sound f ρ a b τ h hi.idem
  refine ⟨⟨h1, uni_from S.kid f ρ a b τ h hi.idem hi.src ha hb, ?_, S.fin f ρ a b τ hi.idem hi.good hP h⟩, h2⟩
  have e : uni f ρ (sub ρ a) (sub ρ b) = some (.ok τ) := by
    cases f with
    | zero => cases h
    | succ f => rw [uni, hi.idem.twice a, hi.idem.twice b]; rw [uni] at h; exact h
  obtain ⟨r, hr, hA⟩ := uni_total S.V ρ (sub ρ a) (sub ρ b) hi.idem hi.vin (ha.tin hi) (hb.tin hi)
  have := hr.only ⟨f, e⟩
  exact (hA τ this).1
/-- Where the loop over the parts stands. -/
def LpI (S : USet) (f : Nat) (σ : Sg) (u v : T) (r : UR) (i : Nat) (vs vb : Value) (X : World) : Prop :=
  (∃ ρ q, vb = .int .i64 0 ∧ (UInv S ρ ∧ ExtU σ ρ ∧ PInv S q ρ ∧ uniL (uni f) ρ (u.kids.drop i) (v.kids.drop i) = some r) ∧ GivenG 53 vs q X ∧ Typ q X) ∨ (∃ e : Bool, vb = .int .i64 (if e then 107 else 106) ∧ vs = .slice none 0 0 ∧ r = .bad e)
theorem lp_next {S : USet} {f : Nat} {σ ρ : Sg} {u v : T} {r r1 : UR} {i : Nat} (h1 : i < u.kids.length) (h2 : i < v.kids.length) (hl : uniL (uni f) ρ (u.kids.drop i) (v.kids.drop i) = some r) (e : uni f ρ u.kids[i] v.kids[i] = some r1) (hi : UInv S ρ) (he : ExtU σ ρ) (ha : UArg S ρ u.kids[i]) (hb : UArg S ρ v.kids[i]) (hP : S.P u.kids[i] v.kids[i]) (E : Ending) (X : World) (hr : RRes S r1 E X) :
    ∃ vs vb, E = .returned (.tuple #[vs, vb]) ∧ LpI S f σ u v r (i + 1) vs vb X := by
  rw [List.drop_eq_getElem_cons h1, List.drop_eq_getElem_cons h2, uniL, e] at hl
  cases r1 with
  | bad q =>
    simp only [Option.some.injEq] at hl
    exact ⟨_, _, hr, .inr ⟨q, rfl, rfl, hl.symm⟩⟩
  | ok τ =>
    obtain ⟨v4, q4, rfl, g1, g2, g3⟩ := hr
    obtain ⟨k1, k2⟩ := uinv_next e hi ha hb hP
    exact ⟨_, _, rfl, .inl ⟨τ, q4, rfl, ⟨k1, he.trans k2, g3, hl⟩, g1, g2⟩⟩
theorem lp_some {f : Nat} {ρ : Sg} {u v : T} {r : UR} {i : Nat} (h1 : i < u.kids.length) (h2 : i < v.kids.length) (hl : uniL (uni f) ρ (u.kids.drop i) (v.kids.drop i) = some r) : ∃ r1, uni f ρ u.kids[i] v.kids[i] = some r1 := by
  rw [List.drop_eq_getElem_cons h1, List.drop_eq_getElem_cons h2, uniL] at hl
  cases e : uni f ρ u.kids[i] v.kids[i] with
  | none => rw [e] at hl; cases hl
  | some r1 => exact ⟨r1, rfl⟩

set_option maxRecDepth 100000 in
set_option maxHeartbeats 2000000 in
theorem runi_step (S : USet) (hS : S.V.length < 900) (f : Nat) (IH : RUni S f) : RUni S (f + 1) := by
  intro σ d a b r sv pa pb ca cb w hun hi ha hb hPab hp hd td hta htb
  have hc := ucase hun hi ha hb hPab
  have hdl : d.length < 1000 := by have := hp.len; omega
  have hla := ha.le hi
  have hlb := hb.le hi
  have hpa := ha.plain hi
  have hpb := hb.plain hi
  have ea := hp.is.app a
  have eb := hp.is.app b
  obtain ⟨u, hu⟩ : ∃ u, sub σ a = u := ⟨_, rfl⟩
  obtain ⟨v, hv⟩ : ∃ v, sub σ b = v := ⟨_, rfl⟩
  rw [hu] at hc hla hpa ea
  rw [hv] at hc hlb hpb eb
  have HA := Lib.hid (rapp_at (by omega) hd td hta (by omega) ea)
  have HBb := Lib.hid (rapp_at (by omega) hd td htb (by omega) eb)
  have HB2 := Lib.hid (fun o1 o2 => below_two w o1 o2)
  have hqs : ∀ x ∈ d, tsize x.t ≤ 1000000000 := fun x hx => by have := hp.sized hi x hx; omega
  have HD := Lib.hid hd; have HTd := Lib.hid td; have HP := Lib.hid hp; have HQ := Lib.hid hqs
  obtain ⟨ku, hku⟩ : ∃ k, u.kind = k := ⟨_, rfl⟩
  obtain ⟨kv, hkv⟩ : ∃ k, v.kind = k := ⟨_, rfl⟩
  rw [hku] at HA
  rw [hkv] at HBb
  have hlu := hla.1
  have hlv := hlb.1
  clear hd td hta htb ea eb hun hqs hla hlb ha hb
  cases hc with
  | same huk hvk hnm hr =>
    subst hr
    obtain rfl : ku = 1 := hku.symm.trans huk
    obtain rfl : kv = 1 := hkv.symm.trans hvk
    have hnmB : (u.name.toList == v.name.toList) = true := by rw [hnm]; simp
    clear hnm huk hvk
    go_enter Tryd.func27, Tryd.ntmps27
    go_wp2_with (first
      | (go_at_call 15; refine (HA.out _ (HB2.out _ _) (by simp)).mono ?_; rintro E w2 ⟨⟨ua, uc, rfl, h2⟩, hb2⟩; obtain ⟨hA, hB, hbw⟩ := first_store hb2; obtain ⟨k0, k1, k2⟩ := three_cells hA; have q0 := Lib.frozen_of_heap hA 0; have q1 := Lib.frozen_of_heap hA 1; have q2 := Lib.frozen_of_heap hA 2; obtain ⟨m0, m1, m2⟩ := three_cells hB; have lA := (Array.getElem?_eq_some_iff.1 hA).1; have lB := (Array.getElem?_eq_some_iff.1 hB).1; have HAx := Lib.hid hA; have HBx := Lib.hid hB; have HW2 := Lib.hid hbw; have HU := Lib.hid h2; clear h2 hb2 hA hB hbw HA)
      | (go_at_call 15; refine (HBb.out _ (below_set3 HW2.out (Nat.le_refl _) (.int .i64 1) (.string u.name) (.slice ua u.kids.length uc)) (by simp [World.size_setCell]; omega)).mono ?_; rintro E w3 ⟨⟨va, vc, rfl, h3⟩, hb3⟩; have hub := ubox_of (u := u) (v := v) (ku := 1) (kv := 1) (ua := ua) (va := va) (uc := uc) (vc := vc) (set3_block HAx.out _ _ _) ((set3_others _ _ _ (by omega)).trans HBx.out) (HU.out.far fun k hk _ => set3_others _ _ _ hk) (below_set3 HW2.out (Nat.le_refl _) _ _ _) hb3 h3; have hB3 := (hb3.block (w.heap.size + 1) (by simp only [World.size_setCell]; exact lB)).trans ((set3_others (.int .i64 1) (.string u.name) (.slice ua u.kids.length uc) (by omega)).trans HBx.out); clear k0 k1 k2 q0 q1 q2 m0 m1 m2; obtain ⟨m0, m1, m2⟩ := three_cells hB3; have q0 := Lib.frozen_of_heap hB3 0; have q1 := Lib.frozen_of_heap hB3 1; have q2 := Lib.frozen_of_heap hB3 2; have lB3 := (Array.getElem?_eq_some_iff.1 hB3).1; have HUB := Lib.hid hub; obtain ⟨b0, b1, b2⟩ := three_cells hub.1.1; clear h3 hb3 hub hB3 HBb HAx HBx HU))
    exact bodyPost_ret (v := .tuple #[sv, .int .i64 0]) (by simp [results, Tryd.results27, go_sem]) rfl ⟨⟨sv, d, rfl, HD.out.below HUB.out.2.2, HTd.out.keep (KeepT.of_below HUB.out.2.2), HP.out⟩, HUB.out.2.2⟩
  | left τ huk ho hnv hbd hx hr =>
    subst hr
    obtain rfl : ku = 1 := hku.symm.trans huk
    have HBind := Lib.hid (fun (W : World) (xa : Option Addr) (xc : Nat) (hW : Below w.heap.size w W) (hT : TysAt W (.slice xa v.kids.length xc) v.kids) => rbind_any sv d u.name v xa xc W (HD.out.below hW) (HTd.out.keep (KeepT.of_below hW)) hT (by omega) HQ.out (by omega) hpb)
    rw [hkv] at HBind
    clear huk
    by_cases hvk : kv = 1
    · have hnmB : (u.name.toList == v.name.toList) = false := by rw [bytes_beq]; exact eqB_false (hnv (hkv.trans hvk))
      subst hvk
      go_enter Tryd.func27, Tryd.ntmps27
      go_wp2_with (first
        | (go_at_call 15; refine (HA.out _ (HB2.out _ _) (by simp)).mono ?_; rintro E w2 ⟨⟨ua, uc, rfl, h2⟩, hb2⟩; obtain ⟨hA, hB, hbw⟩ := first_store hb2; obtain ⟨k0, k1, k2⟩ := three_cells hA; have q0 := Lib.frozen_of_heap hA 0; have q1 := Lib.frozen_of_heap hA 1; have q2 := Lib.frozen_of_heap hA 2; obtain ⟨m0, m1, m2⟩ := three_cells hB; have lA := (Array.getElem?_eq_some_iff.1 hA).1; have lB := (Array.getElem?_eq_some_iff.1 hB).1; have HAx := Lib.hid hA; have HBx := Lib.hid hB; have HW2 := Lib.hid hbw; have HU := Lib.hid h2; clear h2 hb2 hA hB hbw HA)
        | (go_at_call 15; refine (HBb.out _ (below_set3 HW2.out (Nat.le_refl _) (.int .i64 1) (.string u.name) (.slice ua u.kids.length uc)) (by simp [World.size_setCell]; omega)).mono ?_; rintro E w3 ⟨⟨va, vc, rfl, h3⟩, hb3⟩; have hub := ubox_of (u := u) (v := v) (ku := 1) (kv := 1) (ua := ua) (va := va) (uc := uc) (vc := vc) (set3_block HAx.out _ _ _) ((set3_others _ _ _ (by omega)).trans HBx.out) (HU.out.far fun k hk _ => set3_others _ _ _ hk) (below_set3 HW2.out (Nat.le_refl _) _ _ _) hb3 h3; have hB3 := (hb3.block (w.heap.size + 1) (by simp only [World.size_setCell]; exact lB)).trans ((set3_others (.int .i64 1) (.string u.name) (.slice ua u.kids.length uc) (by omega)).trans HBx.out); clear k0 k1 k2 q0 q1 q2 m0 m1 m2; obtain ⟨m0, m1, m2⟩ := three_cells hB3; have q0 := Lib.frozen_of_heap hB3 0; have q1 := Lib.frozen_of_heap hB3 1; have q2 := Lib.frozen_of_heap hB3 2; have lB3 := (Array.getElem?_eq_some_iff.1 hB3).1; have HUB := Lib.hid hub; obtain ⟨b0, b1, b2⟩ := three_cells hub.1.1; clear h3 hb3 hub hB3 HBb HAx HBx HU)
        | (go_at_call 40; refine (HBind.out _ va vc HUB.out.2.2 HUB.out.2.1.2).mono ?_; rintro E w4 ⟨h4, hb4⟩; obtain ⟨_, v4, q4, rfl, g1, g2, g3⟩ := h4.resolve_left (fun h => ho h.1); have G1 := Lib.hid g1; have G2 := Lib.hid g2; have G3 := Lib.hid g3; clear g1 g2 g3; have HB4 := Lib.hid (HUB.out.2.2.trans (hb4.mono HUB.out.2.2.size)); clear hb4 h4 b0 b1 b2 q0 q1 q2 m0 m1 m2))
      exact bodyPost_ret (v := .tuple #[v4, .int .i64 0]) (by simp [results, Tryd.results27, go_sem]) rfl ⟨⟨v4, q4, rfl, G1.out, G2.out, pinv_then (p := ⟨u.name, v, va, vc⟩) HP.out hbd hx G3.out⟩, HB4.out⟩
    · go_enter Tryd.func27, Tryd.ntmps27
      go_wp2_with (first
        | (go_at_call 15; refine (HA.out _ (HB2.out _ _) (by simp)).mono ?_; rintro E w2 ⟨⟨ua, uc, rfl, h2⟩, hb2⟩; obtain ⟨hA, hB, hbw⟩ := first_store hb2; obtain ⟨k0, k1, k2⟩ := three_cells hA; have q0 := Lib.frozen_of_heap hA 0; have q1 := Lib.frozen_of_heap hA 1; have q2 := Lib.frozen_of_heap hA 2; obtain ⟨m0, m1, m2⟩ := three_cells hB; have lA := (Array.getElem?_eq_some_iff.1 hA).1; have lB := (Array.getElem?_eq_some_iff.1 hB).1; have HAx := Lib.hid hA; have HBx := Lib.hid hB; have HW2 := Lib.hid hbw; have HU := Lib.hid h2; clear h2 hb2 hA hB hbw HA)
        | (go_at_call 15; refine (HBb.out _ (below_set3 HW2.out (Nat.le_refl _) (.int .i64 1) (.string u.name) (.slice ua u.kids.length uc)) (by simp [World.size_setCell]; omega)).mono ?_; rintro E w3 ⟨⟨va, vc, rfl, h3⟩, hb3⟩; have hub := ubox_of (u := u) (v := v) (ku := 1) (kv := kv) (ua := ua) (va := va) (uc := uc) (vc := vc) (set3_block HAx.out _ _ _) ((set3_others _ _ _ (by omega)).trans HBx.out) (HU.out.far fun k hk _ => set3_others _ _ _ hk) (below_set3 HW2.out (Nat.le_refl _) _ _ _) hb3 h3; have hB3 := (hb3.block (w.heap.size + 1) (by simp only [World.size_setCell]; exact lB)).trans ((set3_others (.int .i64 1) (.string u.name) (.slice ua u.kids.length uc) (by omega)).trans HBx.out); clear k0 k1 k2 q0 q1 q2 m0 m1 m2; obtain ⟨m0, m1, m2⟩ := three_cells hB3; have q0 := Lib.frozen_of_heap hB3 0; have q1 := Lib.frozen_of_heap hB3 1; have q2 := Lib.frozen_of_heap hB3 2; have lB3 := (Array.getElem?_eq_some_iff.1 hB3).1; have HUB := Lib.hid hub; obtain ⟨b0, b1, b2⟩ := three_cells hub.1.1; clear h3 hb3 hub hB3 HBb HAx HBx HU)
        | (go_at_call 40; refine (HBind.out _ va vc HUB.out.2.2 HUB.out.2.1.2).mono ?_; rintro E w4 ⟨h4, hb4⟩; obtain ⟨_, v4, q4, rfl, g1, g2, g3⟩ := h4.resolve_left (fun h => ho h.1); have G1 := Lib.hid g1; have G2 := Lib.hid g2; have G3 := Lib.hid g3; clear g1 g2 g3; have HB4 := Lib.hid (HUB.out.2.2.trans (hb4.mono HUB.out.2.2.size)); clear hb4 h4 b0 b1 b2 q0 q1 q2 m0 m1 m2))
      exact bodyPost_ret (v := .tuple #[v4, .int .i64 0]) (by simp [results, Tryd.results27, go_sem]) rfl ⟨⟨v4, q4, rfl, G1.out, G2.out, pinv_then (p := ⟨u.name, v, va, vc⟩) HP.out hbd hx G3.out⟩, HB4.out⟩
  | leftIn huk ho hvk hr =>
    subst hr
    obtain rfl : ku = 1 := hku.symm.trans huk
    rw [hkv] at hvk
    have HBind := Lib.hid (fun (W : World) (xa : Option Addr) (xc : Nat) (hW : Below w.heap.size w W) (hT : TysAt W (.slice xa v.kids.length xc) v.kids) => rbind_any sv d u.name v xa xc W (HD.out.below hW) (HTd.out.keep (KeepT.of_below hW)) hT (by omega) HQ.out (by omega) hpb)
    rw [hkv] at HBind
    clear huk
    go_enter Tryd.func27, Tryd.ntmps27
    go_wp2_with (first
      | (go_at_call 15; refine (HA.out _ (HB2.out _ _) (by simp)).mono ?_; rintro E w2 ⟨⟨ua, uc, rfl, h2⟩, hb2⟩; obtain ⟨hA, hB, hbw⟩ := first_store hb2; obtain ⟨k0, k1, k2⟩ := three_cells hA; have q0 := Lib.frozen_of_heap hA 0; have q1 := Lib.frozen_of_heap hA 1; have q2 := Lib.frozen_of_heap hA 2; obtain ⟨m0, m1, m2⟩ := three_cells hB; have lA := (Array.getElem?_eq_some_iff.1 hA).1; have lB := (Array.getElem?_eq_some_iff.1 hB).1; have HAx := Lib.hid hA; have HBx := Lib.hid hB; have HW2 := Lib.hid hbw; have HU := Lib.hid h2; clear h2 hb2 hA hB hbw HA)
      | (go_at_call 15; refine (HBb.out _ (below_set3 HW2.out (Nat.le_refl _) (.int .i64 1) (.string u.name) (.slice ua u.kids.length uc)) (by simp [World.size_setCell]; omega)).mono ?_; rintro E w3 ⟨⟨va, vc, rfl, h3⟩, hb3⟩; have hub := ubox_of (u := u) (v := v) (ku := 1) (kv := kv) (ua := ua) (va := va) (uc := uc) (vc := vc) (set3_block HAx.out _ _ _) ((set3_others _ _ _ (by omega)).trans HBx.out) (HU.out.far fun k hk _ => set3_others _ _ _ hk) (below_set3 HW2.out (Nat.le_refl _) _ _ _) hb3 h3; have hB3 := (hb3.block (w.heap.size + 1) (by simp only [World.size_setCell]; exact lB)).trans ((set3_others (.int .i64 1) (.string u.name) (.slice ua u.kids.length uc) (by omega)).trans HBx.out); clear k0 k1 k2 q0 q1 q2 m0 m1 m2; obtain ⟨m0, m1, m2⟩ := three_cells hB3; have q0 := Lib.frozen_of_heap hB3 0; have q1 := Lib.frozen_of_heap hB3 1; have q2 := Lib.frozen_of_heap hB3 2; have lB3 := (Array.getElem?_eq_some_iff.1 hB3).1; have HUB := Lib.hid hub; obtain ⟨b0, b1, b2⟩ := three_cells hub.1.1; clear h3 hb3 hub hB3 HBb HAx HBx HU)
      | (go_at_call 40; refine (HBind.out _ va vc HUB.out.2.2 HUB.out.2.1.2).mono ?_; rintro E w4 ⟨h4, hb4⟩; obtain ⟨_, rfl⟩ := h4.resolve_right (fun h => h.1 ho); have HB4 := Lib.hid (HUB.out.2.2.trans (hb4.mono HUB.out.2.2.size)); clear hb4 h4 b0 b1 b2 q0 q1 q2 m0 m1 m2))
    exact bodyPost_ret (v := .tuple #[.slice none 0 0, .int .i64 107]) (by simp [results, Tryd.results27, go_sem]) rfl ⟨rfl, HB4.out⟩
  | right τ huk hvk ho hbd hx hr =>
    subst hr
    obtain rfl : kv = 1 := hkv.symm.trans hvk
    rw [hku] at huk
    have HBind := Lib.hid (fun (W : World) (xa : Option Addr) (xc : Nat) (hW : Below w.heap.size w W) (hT : TysAt W (.slice xa u.kids.length xc) u.kids) => rbind_any sv d v.name u xa xc W (HD.out.below hW) (HTd.out.keep (KeepT.of_below hW)) hT (by omega) HQ.out (by omega) hpa)
    rw [hku] at HBind
    clear hvk
    go_enter Tryd.func27, Tryd.ntmps27
    go_wp2_with (first
      | (go_at_call 15; refine (HA.out _ (HB2.out _ _) (by simp)).mono ?_; rintro E w2 ⟨⟨ua, uc, rfl, h2⟩, hb2⟩; obtain ⟨hA, hB, hbw⟩ := first_store hb2; obtain ⟨k0, k1, k2⟩ := three_cells hA; have q0 := Lib.frozen_of_heap hA 0; have q1 := Lib.frozen_of_heap hA 1; have q2 := Lib.frozen_of_heap hA 2; obtain ⟨m0, m1, m2⟩ := three_cells hB; have lA := (Array.getElem?_eq_some_iff.1 hA).1; have lB := (Array.getElem?_eq_some_iff.1 hB).1; have HAx := Lib.hid hA; have HBx := Lib.hid hB; have HW2 := Lib.hid hbw; have HU := Lib.hid h2; clear h2 hb2 hA hB hbw HA)
      | (go_at_call 15; refine (HBb.out _ (below_set3 HW2.out (Nat.le_refl _) (.int .i64 ku) (.string u.name) (.slice ua u.kids.length uc)) (by simp [World.size_setCell]; omega)).mono ?_; rintro E w3 ⟨⟨va, vc, rfl, h3⟩, hb3⟩; have hub := ubox_of (u := u) (v := v) (ku := ku) (kv := 1) (ua := ua) (va := va) (uc := uc) (vc := vc) (set3_block HAx.out _ _ _) ((set3_others _ _ _ (by omega)).trans HBx.out) (HU.out.far fun k hk _ => set3_others _ _ _ hk) (below_set3 HW2.out (Nat.le_refl _) _ _ _) hb3 h3; have hB3 := (hb3.block (w.heap.size + 1) (by simp only [World.size_setCell]; exact lB)).trans ((set3_others (.int .i64 ku) (.string u.name) (.slice ua u.kids.length uc) (by omega)).trans HBx.out); clear k0 k1 k2 q0 q1 q2 m0 m1 m2; obtain ⟨m0, m1, m2⟩ := three_cells hB3; have q0 := Lib.frozen_of_heap hB3 0; have q1 := Lib.frozen_of_heap hB3 1; have q2 := Lib.frozen_of_heap hB3 2; have lB3 := (Array.getElem?_eq_some_iff.1 hB3).1; have HUB := Lib.hid hub; obtain ⟨b0, b1, b2⟩ := three_cells hub.1.1; clear h3 hb3 hub hB3 HBb HAx HBx HU)
      | (go_at_call 40; refine (HBind.out _ ua uc HUB.out.2.2 HUB.out.2.1.1).mono ?_; rintro E w4 ⟨h4, hb4⟩; obtain ⟨_, v4, q4, rfl, g1, g2, g3⟩ := h4.resolve_left (fun h => ho h.1); have G1 := Lib.hid g1; have G2 := Lib.hid g2; have G3 := Lib.hid g3; clear g1 g2 g3; have HB4 := Lib.hid (HUB.out.2.2.trans (hb4.mono HUB.out.2.2.size)); clear hb4 h4 b0 b1 b2 q0 q1 q2 m0 m1 m2))
    exact bodyPost_ret (v := .tuple #[v4, .int .i64 0]) (by simp [results, Tryd.results27, go_sem]) rfl ⟨⟨v4, q4, rfl, G1.out, G2.out, pinv_then (p := ⟨v.name, u, ua, uc⟩) HP.out hbd hx G3.out⟩, HB4.out⟩
  | rightIn huk hvk ho hr =>
    subst hr
    obtain rfl : kv = 1 := hkv.symm.trans hvk
    rw [hku] at huk
    have HBind := Lib.hid (fun (W : World) (xa : Option Addr) (xc : Nat) (hW : Below w.heap.size w W) (hT : TysAt W (.slice xa u.kids.length xc) u.kids) => rbind_any sv d v.name u xa xc W (HD.out.below hW) (HTd.out.keep (KeepT.of_below hW)) hT (by omega) HQ.out (by omega) hpa)
    rw [hku] at HBind
    clear hvk
    go_enter Tryd.func27, Tryd.ntmps27
    go_wp2_with (first
      | (go_at_call 15; refine (HA.out _ (HB2.out _ _) (by simp)).mono ?_; rintro E w2 ⟨⟨ua, uc, rfl, h2⟩, hb2⟩; obtain ⟨hA, hB, hbw⟩ := first_store hb2; obtain ⟨k0, k1, k2⟩ := three_cells hA; have q0 := Lib.frozen_of_heap hA 0; have q1 := Lib.frozen_of_heap hA 1; have q2 := Lib.frozen_of_heap hA 2; obtain ⟨m0, m1, m2⟩ := three_cells hB; have lA := (Array.getElem?_eq_some_iff.1 hA).1; have lB := (Array.getElem?_eq_some_iff.1 hB).1; have HAx := Lib.hid hA; have HBx := Lib.hid hB; have HW2 := Lib.hid hbw; have HU := Lib.hid h2; clear h2 hb2 hA hB hbw HA)
      | (go_at_call 15; refine (HBb.out _ (below_set3 HW2.out (Nat.le_refl _) (.int .i64 ku) (.string u.name) (.slice ua u.kids.length uc)) (by simp [World.size_setCell]; omega)).mono ?_; rintro E w3 ⟨⟨va, vc, rfl, h3⟩, hb3⟩; have hub := ubox_of (u := u) (v := v) (ku := ku) (kv := 1) (ua := ua) (va := va) (uc := uc) (vc := vc) (set3_block HAx.out _ _ _) ((set3_others _ _ _ (by omega)).trans HBx.out) (HU.out.far fun k hk _ => set3_others _ _ _ hk) (below_set3 HW2.out (Nat.le_refl _) _ _ _) hb3 h3; have hB3 := (hb3.block (w.heap.size + 1) (by simp only [World.size_setCell]; exact lB)).trans ((set3_others (.int .i64 ku) (.string u.name) (.slice ua u.kids.length uc) (by omega)).trans HBx.out); clear k0 k1 k2 q0 q1 q2 m0 m1 m2; obtain ⟨m0, m1, m2⟩ := three_cells hB3; have q0 := Lib.frozen_of_heap hB3 0; have q1 := Lib.frozen_of_heap hB3 1; have q2 := Lib.frozen_of_heap hB3 2; have lB3 := (Array.getElem?_eq_some_iff.1 hB3).1; have HUB := Lib.hid hub; obtain ⟨b0, b1, b2⟩ := three_cells hub.1.1; clear h3 hb3 hub hB3 HBb HAx HBx HU)
      | (go_at_call 40; refine (HBind.out _ ua uc HUB.out.2.2 HUB.out.2.1.1).mono ?_; rintro E w4 ⟨h4, hb4⟩; obtain ⟨_, rfl⟩ := h4.resolve_right (fun h => h.1 ho); have HB4 := Lib.hid (HUB.out.2.2.trans (hb4.mono HUB.out.2.2.size)); clear hb4 h4 b0 b1 b2 q0 q1 q2 m0 m1 m2))
    exact bodyPost_ret (v := .tuple #[.slice none 0 0, .int .i64 107]) (by simp [results, Tryd.results27, go_sem]) rfl ⟨rfl, HB4.out⟩
  | parts huk hvk hkk hnn hll hul ka kb kP =>
    rw [hku] at huk hkk
    rw [hkv] at hvk hkk
    subst hkk
    have hnmB : (u.name.toList == v.name.toList) = true := by rw [hnn]; simp
    have hllI : ((u.kids.length : Int) = (v.kids.length : Int)) := by omega
    have hkB : (ku == 1) = false := by simpa using huk
    have HKa := Lib.hid ka; have HKb := Lib.hid kb; have HKP := Lib.hid kP; have HLl := Lib.hid hll
    have HL0 := Lib.hid (show ∀ X, Below w.heap.size w X → LpI S f σ u v r 0 sv (.int .i64 0) X from fun X hX => .inl ⟨σ, d, rfl, ⟨hi, .refl σ, HP.out, hul⟩, HD.out.below hX, HTd.out.keep (KeepT.of_below hX)⟩)
    clear hnn hvk hll ka kb kP hul huk hkv hku
    go_enter Tryd.func27, Tryd.ntmps27
    go_wp2_with (first
      | (go_at_call 15; refine (HA.out _ (HB2.out _ _) (by simp)).mono ?_; rintro E w2 ⟨⟨ua, uc, rfl, h2⟩, hb2⟩; obtain ⟨hA, hB, hbw⟩ := first_store hb2; obtain ⟨k0, k1, k2⟩ := three_cells hA; have q0 := Lib.frozen_of_heap hA 0; have q1 := Lib.frozen_of_heap hA 1; have q2 := Lib.frozen_of_heap hA 2; obtain ⟨m0, m1, m2⟩ := three_cells hB; have lA := (Array.getElem?_eq_some_iff.1 hA).1; have lB := (Array.getElem?_eq_some_iff.1 hB).1; have HAx := Lib.hid hA; have HBx := Lib.hid hB; have HW2 := Lib.hid hbw; have HU := Lib.hid h2; clear h2 hb2 hA hB hbw HA)
      | (go_at_call 15; refine (HBb.out _ (below_set3 HW2.out (Nat.le_refl _) (.int .i64 ku) (.string u.name) (.slice ua u.kids.length uc)) (by simp [World.size_setCell]; omega)).mono ?_; rintro E w3 ⟨⟨va, vc, rfl, h3⟩, hb3⟩; have hub := ubox_of (u := u) (v := v) (ku := ku) (kv := ku) (ua := ua) (va := va) (uc := uc) (vc := vc) (set3_block HAx.out _ _ _) ((set3_others _ _ _ (by omega)).trans HBx.out) (HU.out.far fun k hk _ => set3_others _ _ _ hk) (below_set3 HW2.out (Nat.le_refl _) _ _ _) hb3 h3; have hB3 := (hb3.block (w.heap.size + 1) (by simp only [World.size_setCell]; exact lB)).trans ((set3_others (.int .i64 ku) (.string u.name) (.slice ua u.kids.length uc) (by omega)).trans HBx.out); clear k0 k1 k2 q0 q1 q2 m0 m1 m2; obtain ⟨m0, m1, m2⟩ := three_cells hB3; have q0 := Lib.frozen_of_heap hB3 0; have q1 := Lib.frozen_of_heap hB3 1; have q2 := Lib.frozen_of_heap hB3 2; have lB3 := (Array.getElem?_eq_some_iff.1 hB3).1; have HUB := Lib.hid hub; obtain ⟨b0, b1, b2⟩ := three_cells hub.1.1; clear h3 hb3 hub hB3 HBb HAx HBx HU))
    have hUBX := HUB.out
    have HL1 := Lib.hid (HL0.out _ HUB.out.2.2)
    clear HL0 b0 b1 b2 q0 q1 q2 m0 m1 m2 HUB lB3 lA lB
    generalize ((w3.setCell ⟨w.heap.size + 1, 0, none⟩ (.int .i64 ku)).setCell ⟨w.heap.size + 1, 1, none⟩ (.string v.name)).setCell ⟨w.heap.size + 1, 2, none⟩ (.slice va v.kids.length vc) = X0 at *
    have HUB := Lib.hid hUBX
    clear hUBX
    have hkl : u.kids.length ≤ 900000000 := by have := len_sizes' u.kids; rw [tsize_eq] at hlu; omega
    go_loopw [0, 8, 9] (fun vx vb vi wr => ∃ i : Nat, i ≤ u.kids.length ∧ vi = .int .i64 i ∧ Hid (LpI S f σ u v r i vx vb wr) ∧ Hid (UBox w u v ku ku ua va uc vc wr)) (fun _ _ vi _ => u.kids.length - (intOf vi).toNat)
    case atStart => exact ⟨0, Nat.zero_le _, rfl, HL1, HUB⟩
    case round =>
      obtain ⟨i, hi', rfl, hL, hU⟩ := hrel
      obtain ⟨a0, a1, a2⟩ := three_cells hU.out.1.1
      obtain ⟨b0, b1, b2⟩ := three_cells hU.out.1.2
      have lA := (Array.getElem?_eq_some_iff.1 hU.out.1.1).1
      have lB := (Array.getElem?_eq_some_iff.1 hU.out.1.2).1
      rcases hL.out with ⟨ρ, q, rfl, ⟨h1, h2, h3, h4⟩, h5, h6⟩ | ⟨e, rfl, rfl, hr⟩
      · by_cases hlt : i < u.kids.length
        · have hlt2 : i < v.kids.length := by have := HLl.out; omega
          have hiz : (i : Int) < (u.kids.length : Int) := by omega
          have hiz2 : (i : Int) < (v.kids.length : Int) := by omega
          obtain ⟨gu, pu, cu, rfl, hcu, hpu⟩ := hU.out.2.1.1.part i hlt
          obtain ⟨gv, pv, cv, rfl, hcv, hpv⟩ := hU.out.2.1.2.part i hlt2
          obtain ⟨⟨lu, x0, x1, x2⟩, xk⟩ := hpu wr (KeepT.refl wr)
          obtain ⟨⟨lv, y0, y1, y2⟩, yk⟩ := hpv wr (KeepT.refl wr)
          obtain ⟨r1, hr1⟩ := lp_some hlt hlt2 h4
          have ha := (HKa.out _ (List.getElem_mem hlt)).ext hi h2
          have hb := (HKb.out _ (List.getElem_mem hlt2)).ext hi h2
          have hd0 : Below wr.heap.size wr wr.drew := (Below.refl _ wr).drew
          have HC := Lib.hid (IH ρ q u.kids[i] v.kids[i] r1 u0 pu pv cu cv wr.drew hr1 h1 ha hb (HKP.out i hlt hlt2) h3 (h5.below hd0) (h6.keep (KeepT.of_below hd0)) (xk.keep (KeepT.of_below hd0)) (yk.keep (KeepT.of_below hd0)))
          have HN := Lib.hid (fun E X h => lp_next (E := E) (X := X) (σ := σ) hlt hlt2 h4 hr1 h1 h2 ha hb (HKP.out i hlt hlt2) h)
          have HD0 := Lib.hid hd0
          clear h1 h2 h3 h4 h5 h6 hr1 ha hb hpu hpv xk yk hd0 hL
          generalize u.kids[i] = ku1 at *
          generalize v.kids[i] = kv1 at *
          go_wp2
          go_region_with (go_at_call 27; refine HC.out.mono ?_; rintro E w4 ⟨h4, hb4⟩; obtain ⟨vs4, vb4, rfl, hl4⟩ := HN.out _ _ h4; have HL4 := Lib.hid hl4; have HU4 := Lib.hid (hU.out.below (HD0.out.trans hb4)); clear h4 hb4 hl4 HC HN)
          all_goals
            go_wp2
            go_roundw
            case rel => exact ⟨i + 1, by omega, by go_num, HL4, HU4⟩
            case measure => simp [intOf]; omega
        · have hiz : ¬ ((i : Int) < (u.kids.length : Int)) := by omega
          have hrr : r = .ok ρ := by
            rw [List.drop_eq_nil_of_le (show u.kids.length ≤ i by omega)] at h4
            simp only [uniL, Option.some.injEq] at h4
            exact h4.symm
          subst hrr
          have H3 := Lib.hid h3; have H5 := Lib.hid h5; have H6 := Lib.hid h6
          clear h1 h2 h3 h4 h5 h6 hL
          go_wp2
          exact bodyPost_ret (v := .tuple #[u0, .int .i64 0]) (by simp [results, Tryd.results27, go_sem]) rfl ⟨⟨u0, q, rfl, H5.out, H6.out, H3.out⟩, hU.out.2.2⟩
      · subst hr
        clear hL
        cases e with
        | true =>
          simp only [if_true]
          by_cases hlt : i < u.kids.length
          · have hiz : (i : Int) < (u.kids.length : Int) := by omega
            go_wp2
            exact bodyPost_ret (v := .tuple #[.slice none 0 0, .int .i64 107]) (by simp [results, Tryd.results27, go_sem]) rfl ⟨rfl, hU.out.2.2⟩
          · have hiz : ¬ ((i : Int) < (u.kids.length : Int)) := by omega
            go_wp2
            exact bodyPost_ret (v := .tuple #[.slice none 0 0, .int .i64 107]) (by simp [results, Tryd.results27, go_sem]) rfl ⟨rfl, hU.out.2.2⟩
        | false =>
          simp only [Bool.false_eq_true, if_false]
          by_cases hlt : i < u.kids.length
          · have hiz : (i : Int) < (u.kids.length : Int) := by omega
            go_wp2
            exact bodyPost_ret (v := .tuple #[.slice none 0 0, .int .i64 106]) (by simp [results, Tryd.results27, go_sem]) rfl ⟨rfl, hU.out.2.2⟩
          · have hiz : ¬ ((i : Int) < (u.kids.length : Int)) := by omega
            go_wp2
            exact bodyPost_ret (v := .tuple #[.slice none 0 0, .int .i64 106]) (by simp [results, Tryd.results27, go_sem]) rfl ⟨rfl, hU.out.2.2⟩
  | kinds huk hvk hkk hr =>
    subst hr
    rw [hku] at huk hkk
    rw [hkv] at hvk hkk
    go_enter Tryd.func27, Tryd.ntmps27
    go_wp2_with (first
      | (go_at_call 15; refine (HA.out _ (HB2.out _ _) (by simp)).mono ?_; rintro E w2 ⟨⟨ua, uc, rfl, h2⟩, hb2⟩; obtain ⟨hA, hB, hbw⟩ := first_store hb2; obtain ⟨k0, k1, k2⟩ := three_cells hA; have q0 := Lib.frozen_of_heap hA 0; have q1 := Lib.frozen_of_heap hA 1; have q2 := Lib.frozen_of_heap hA 2; obtain ⟨m0, m1, m2⟩ := three_cells hB; have lA := (Array.getElem?_eq_some_iff.1 hA).1; have lB := (Array.getElem?_eq_some_iff.1 hB).1; have HAx := Lib.hid hA; have HBx := Lib.hid hB; have HW2 := Lib.hid hbw; have HU := Lib.hid h2; clear h2 hb2 hA hB hbw HA)
      | (go_at_call 15; refine (HBb.out _ (below_set3 HW2.out (Nat.le_refl _) (.int .i64 ku) (.string u.name) (.slice ua u.kids.length uc)) (by simp [World.size_setCell]; omega)).mono ?_; rintro E w3 ⟨⟨va, vc, rfl, h3⟩, hb3⟩; have hub := ubox_of (u := u) (v := v) (ku := ku) (kv := kv) (ua := ua) (va := va) (uc := uc) (vc := vc) (set3_block HAx.out _ _ _) ((set3_others _ _ _ (by omega)).trans HBx.out) (HU.out.far fun k hk _ => set3_others _ _ _ hk) (below_set3 HW2.out (Nat.le_refl _) _ _ _) hb3 h3; have hB3 := (hb3.block (w.heap.size + 1) (by simp only [World.size_setCell]; exact lB)).trans ((set3_others (.int .i64 ku) (.string u.name) (.slice ua u.kids.length uc) (by omega)).trans HBx.out); clear k0 k1 k2 q0 q1 q2 m0 m1 m2; obtain ⟨m0, m1, m2⟩ := three_cells hB3; have q0 := Lib.frozen_of_heap hB3 0; have q1 := Lib.frozen_of_heap hB3 1; have q2 := Lib.frozen_of_heap hB3 2; have lB3 := (Array.getElem?_eq_some_iff.1 hB3).1; have HUB := Lib.hid hub; obtain ⟨b0, b1, b2⟩ := three_cells hub.1.1; clear h3 hb3 hub hB3 HBb HAx HBx HU))
    exact bodyPost_ret (v := .tuple #[.slice none 0 0, .int .i64 106]) (by simp [results, Tryd.results27, go_sem]) rfl ⟨rfl, HUB.out.2.2⟩
  | names huk hvk hkk hnn hr =>
    subst hr
    rw [hku] at huk hkk
    rw [hkv] at hvk hkk
    subst hkk
    have hnmB : (u.name.toList == v.name.toList) = false := by rw [bytes_beq]; exact eqB_false hnn
    clear hnn hvk
    go_enter Tryd.func27, Tryd.ntmps27
    go_wp2_with (first
      | (go_at_call 15; refine (HA.out _ (HB2.out _ _) (by simp)).mono ?_; rintro E w2 ⟨⟨ua, uc, rfl, h2⟩, hb2⟩; obtain ⟨hA, hB, hbw⟩ := first_store hb2; obtain ⟨k0, k1, k2⟩ := three_cells hA; have q0 := Lib.frozen_of_heap hA 0; have q1 := Lib.frozen_of_heap hA 1; have q2 := Lib.frozen_of_heap hA 2; obtain ⟨m0, m1, m2⟩ := three_cells hB; have lA := (Array.getElem?_eq_some_iff.1 hA).1; have lB := (Array.getElem?_eq_some_iff.1 hB).1; have HAx := Lib.hid hA; have HBx := Lib.hid hB; have HW2 := Lib.hid hbw; have HU := Lib.hid h2; clear h2 hb2 hA hB hbw HA)
      | (go_at_call 15; refine (HBb.out _ (below_set3 HW2.out (Nat.le_refl _) (.int .i64 ku) (.string u.name) (.slice ua u.kids.length uc)) (by simp [World.size_setCell]; omega)).mono ?_; rintro E w3 ⟨⟨va, vc, rfl, h3⟩, hb3⟩; have hub := ubox_of (u := u) (v := v) (ku := ku) (kv := ku) (ua := ua) (va := va) (uc := uc) (vc := vc) (set3_block HAx.out _ _ _) ((set3_others _ _ _ (by omega)).trans HBx.out) (HU.out.far fun k hk _ => set3_others _ _ _ hk) (below_set3 HW2.out (Nat.le_refl _) _ _ _) hb3 h3; have hB3 := (hb3.block (w.heap.size + 1) (by simp only [World.size_setCell]; exact lB)).trans ((set3_others (.int .i64 ku) (.string u.name) (.slice ua u.kids.length uc) (by omega)).trans HBx.out); clear k0 k1 k2 q0 q1 q2 m0 m1 m2; obtain ⟨m0, m1, m2⟩ := three_cells hB3; have q0 := Lib.frozen_of_heap hB3 0; have q1 := Lib.frozen_of_heap hB3 1; have q2 := Lib.frozen_of_heap hB3 2; have lB3 := (Array.getElem?_eq_some_iff.1 hB3).1; have HUB := Lib.hid hub; obtain ⟨b0, b1, b2⟩ := three_cells hub.1.1; clear h3 hb3 hub hB3 HBb HAx HBx HU))
    exact bodyPost_ret (v := .tuple #[.slice none 0 0, .int .i64 106]) (by simp [results, Tryd.results27, go_sem]) rfl ⟨rfl, HUB.out.2.2⟩
  | many huk hvk hkk hnn hll hr =>
    subst hr
    rw [hku] at huk hkk
    rw [hkv] at hvk hkk
    subst hkk
    have hnmB : (u.name.toList == v.name.toList) = true := by rw [hnn]; simp
    have hllI : ¬ ((u.kids.length : Int) = (v.kids.length : Int)) := by omega
    clear hnn hvk hll
    go_enter Tryd.func27, Tryd.ntmps27
    go_wp2_with (first
      | (go_at_call 15; refine (HA.out _ (HB2.out _ _) (by simp)).mono ?_; rintro E w2 ⟨⟨ua, uc, rfl, h2⟩, hb2⟩; obtain ⟨hA, hB, hbw⟩ := first_store hb2; obtain ⟨k0, k1, k2⟩ := three_cells hA; have q0 := Lib.frozen_of_heap hA 0; have q1 := Lib.frozen_of_heap hA 1; have q2 := Lib.frozen_of_heap hA 2; obtain ⟨m0, m1, m2⟩ := three_cells hB; have lA := (Array.getElem?_eq_some_iff.1 hA).1; have lB := (Array.getElem?_eq_some_iff.1 hB).1; have HAx := Lib.hid hA; have HBx := Lib.hid hB; have HW2 := Lib.hid hbw; have HU := Lib.hid h2; clear h2 hb2 hA hB hbw HA)
      | (go_at_call 15; refine (HBb.out _ (below_set3 HW2.out (Nat.le_refl _) (.int .i64 ku) (.string u.name) (.slice ua u.kids.length uc)) (by simp [World.size_setCell]; omega)).mono ?_; rintro E w3 ⟨⟨va, vc, rfl, h3⟩, hb3⟩; have hub := ubox_of (u := u) (v := v) (ku := ku) (kv := ku) (ua := ua) (va := va) (uc := uc) (vc := vc) (set3_block HAx.out _ _ _) ((set3_others _ _ _ (by omega)).trans HBx.out) (HU.out.far fun k hk _ => set3_others _ _ _ hk) (below_set3 HW2.out (Nat.le_refl _) _ _ _) hb3 h3; have hB3 := (hb3.block (w.heap.size + 1) (by simp only [World.size_setCell]; exact lB)).trans ((set3_others (.int .i64 ku) (.string u.name) (.slice ua u.kids.length uc) (by omega)).trans HBx.out); clear k0 k1 k2 q0 q1 q2 m0 m1 m2; obtain ⟨m0, m1, m2⟩ := three_cells hB3; have q0 := Lib.frozen_of_heap hB3 0; have q1 := Lib.frozen_of_heap hB3 1; have q2 := Lib.frozen_of_heap hB3 2; have lB3 := (Array.getElem?_eq_some_iff.1 hB3).1; have HUB := Lib.hid hub; obtain ⟨b0, b1, b2⟩ := three_cells hub.1.1; clear h3 hb3 hub hB3 HBb HAx HBx HU))
    exact bodyPost_ret (v := .tuple #[.slice none 0 0, .int .i64 106]) (by simp [results, Tryd.results27, go_sem]) rfl ⟨rfl, HUB.out.2.2⟩
theorem runi_ok (S : USet) (hS : S.V.length < 900) : ∀ f, RUni S f
  | 0 => fun σ d a b r sv pa pb ca cb w h => by cases h
  | f + 1 => runi_step S hS f (runi_ok S hS f)
/-- The document's unify, with what was found so far. -/
theorem runi_any {S : USet} (hS : S.V.length < 900) {σ : Sg} {d : List PR} {a b : T} {r : UR} {sv : Value} {pa pb : Option Addr} {ca cb : Nat} {w : World} (h : Uni σ a b r) (hi : UInv S σ) (ha : UArg S σ a) (hb : UArg S σ b) (hP : S.P a b) (hp : PInv S d σ) (hd : GivenG 53 sv d w) (td : Typ d w) (hta : TysAt w (.slice pa a.kids.length ca) a.kids) (htb : TysAt w (.slice pb b.kids.length cb) b.kids) :
    Calls Tryd.prog 27 #[sv, .agg #[.int .i64 a.kind, .string a.name, .slice pa a.kids.length ca], .agg #[.int .i64 b.kind, .string b.name, .slice pb b.kids.length cb]] w fun E w' => RRes S r E w' ∧ Below w.heap.size w w' := by
  obtain ⟨f, h⟩ := h
  exact runi_ok S hS f σ d a b r sv pa pb ca cb w h hi ha hb hP hp hd td hta htb
set_option maxRecDepth 100000 in
/-- The document's Unify. -/
theorem runify_any {S : USet} (hS : S.V.length < 900) {a b : T} {r : UR} {pa pb : Option Addr} {ca cb : Nat} {w : World} (h : Uni T.var a b r) (ha : S.O a) (hb : S.O b) (hP : S.P a b) (hta : TysAt w (.slice pa a.kids.length ca) a.kids) (htb : TysAt w (.slice pb b.kids.length cb) b.kids) :
    Calls Tryd.prog 11 #[.agg #[.int .i64 a.kind, .string a.name, .slice pa a.kids.length ca], .agg #[.int .i64 b.kind, .string b.name, .slice pb b.kids.length cb]] w fun E w' => RRes S r E w' ∧ Below w.heap.size w w' := by
  have HC := Lib.hid (fun (V : World) (hb2 : Below w.heap.size w V) => runi_any (sv := .slice none 0 0) (d := []) hS h (uinv_var S) (.of ha) (.of hb) hP (pinv_nil S) (.inl ⟨rfl, rfl⟩) (fun _ h => nomatch h) (hta.keep (KeepT.of_below hb2)) (htb.keep (KeepT.of_below hb2)))
  have HB := Lib.hid (fun o1 o2 => below_two w o1 o2)
  clear h ha hb hta htb hP
  go_enter Tryd.func11, Tryd.ntmps11
  go_wp2_with (go_at_call 27; refine (HC.out _ (HB.out _ _)).mono ?_)
  rintro E w2 ⟨h1, h2⟩
  have HW := Lib.hid ((HB.out _ _).trans (h2.mono (by simp; omega)))
  clear h2 HC HB
  cases r with
  | ok τ =>
    obtain ⟨v, q, rfl, g1, g2, g3⟩ := h1
    have G1 := Lib.hid g1; have G2 := Lib.hid g2; have G3 := Lib.hid g3
    clear g1 g2 g3
    go_wp2
    exact bodyPost_ret (v := .tuple #[v, .int .i64 0]) (by simp [results, Tryd.results11, go_sem]) rfl ⟨⟨v, q, rfl, G1.out, G2.out, G3.out⟩, HW.out⟩
  | bad e =>
    have h1 : E = .returned (.tuple #[.slice none 0 0, .int .i64 (if e then 107 else 106)]) := h1
    subst h1
    cases e with
    | true =>
      simp only [if_true]
      go_wp2
      exact bodyPost_ret (v := .tuple #[.slice none 0 0, .int .i64 107]) (by simp [results, Tryd.results11, go_sem]) rfl ⟨rfl, HW.out⟩
    | false =>
      simp only [Bool.false_eq_true, if_false]
      go_wp2
      exact bodyPost_ret (v := .tuple #[.slice none 0 0, .int .i64 106]) (by simp [results, Tryd.results11, go_sem]) rfl ⟨rfl, HW.out⟩
end Go.Proofs.YthpphjkoiipkkaaDoor
/- The document's UnifyAll. -/
namespace Go.Proofs.YthpphjkoiipkkaaDoor
open Go.RowKit Go.Sort Go.Lib
attribute [local go_sem] Oper.semAt_some

/-- Pair by pair. -/
inductive UniAll : Sg → List (T × T) → UR → Prop
  | nil (σ : Sg) : UniAll σ [] (.ok σ)
  | cons (σ τ : Sg) (a b : T) (l : List (T × T)) (r : UR) : Uni σ a b (.ok τ) → UniAll τ l r → UniAll σ ((a, b) :: l) r
  | bad (σ : Sg) (a b : T) (l : List (T × T)) (e : Bool) : Uni σ a b (.bad e) → UniAll σ ((a, b) :: l) (.bad e)
theorem Uni.inv {S : USet} {ρ τ : Sg} {a b : T} (h : Uni ρ a b (.ok τ)) (hi : UInv S ρ) (ha : UArg S ρ a) (hb : UArg S ρ b) (hP : S.P a b) : UInv S τ ∧ ExtU ρ τ := by
  obtain ⟨f, h⟩ := h; exact uinv_next h hi ha hb hP
/-- Pairs of types lie in a row. -/
def P2At (v : Value) (l : List (Tl × Tl)) (w : World) : Prop := ∃ a c, v = .slice a l.length c ∧ l.length ≤ c ∧ ∀ i (hi : i < l.length), ∃ g, a = some ⟨g, 0, none⟩ ∧ g < w.heap.size ∧
  ((w.cell? ⟨g, i * 6, none⟩ = some (.int .i64 l[i].1.1.kind) ∧ w.cell? ⟨g, i * 6 + 1, none⟩ = some (.string l[i].1.1.name) ∧ w.cell? ⟨g, i * 6 + 2, none⟩ = some (.slice l[i].1.2.1 l[i].1.1.kids.length l[i].1.2.2)) ∧
    (w.cell? ⟨g, i * 6 + 3, none⟩ = some (.int .i64 l[i].2.1.kind) ∧ w.cell? ⟨g, i * 6 + 3 + 1, none⟩ = some (.string l[i].2.1.name) ∧ w.cell? ⟨g, i * 6 + 3 + 2, none⟩ = some (.slice l[i].2.2.1 l[i].2.1.kids.length l[i].2.2.2))) ∧
  TysAt w (.slice l[i].1.2.1 l[i].1.1.kids.length l[i].1.2.2) l[i].1.1.kids ∧ TysAt w (.slice l[i].2.2.1 l[i].2.1.kids.length l[i].2.2.2) l[i].2.1.kids
theorem P2At.below {v : Value} {l : List (Tl × Tl)} {w W : World} (h : P2At v l w) (hb : Below w.heap.size w W) : P2At v l W := by
  obtain ⟨a, c, rfl, hc, hr⟩ := h
  refine ⟨a, c, rfl, hc, fun i hi => ?_⟩
  obtain ⟨g, e, hg, ⟨⟨x0, x1, x2⟩, y0, y1, y2⟩, k1, k2⟩ := hr i hi
  have f1 := fun o => hb.cell (p := ⟨g, o, none⟩) hg
  refine ⟨g, e, Nat.lt_of_lt_of_le hg hb.size, ⟨⟨?_, ?_, ?_⟩, ?_, ?_, ?_⟩, k1.keep (KeepT.of_below hb), k2.keep (KeepT.of_below hb)⟩ <;> rw [f1] <;> assumption
def plainP (l : List (Tl × Tl)) : List (T × T) := l.map fun x => (x.1.1, x.2.1)
/-- Where the loop over the pairs stands. -/
def LaI (S : USet) (l : List (Tl × Tl)) (r : UR) (i : Nat) (vs vb : Value) (X : World) : Prop :=
  (∃ ρ q, vb = .int .i64 0 ∧ (UInv S ρ ∧ PInv S q ρ ∧ UniAll ρ (plainP (l.drop i)) r) ∧ GivenG 53 vs q X ∧ Typ q X) ∨ (∃ e : Bool, vb = .int .i64 (if e then 107 else 106) ∧ vs = .slice none 0 0 ∧ r = .bad e)
theorem la_next {S : USet} {ρ : Sg} {l : List (Tl × Tl)} {r : UR} {i : Nat} (h1 : i < l.length) (hl : UniAll ρ (plainP (l.drop i)) r) (hi : UInv S ρ) (ha : S.O l[i].1.1) (hb : S.O l[i].2.1) (hP : S.P l[i].1.1 l[i].2.1) :
    ∃ r1, Uni ρ l[i].1.1 l[i].2.1 r1 ∧ ∀ E X, RRes S r1 E X → ∃ vs vb, E = .returned (.tuple #[vs, vb]) ∧ LaI S l r (i + 1) vs vb X := by
  rw [List.drop_eq_getElem_cons h1] at hl
  generalize e : plainP (l[i] :: l.drop (i + 1)) = k at hl
  cases hl with
  | nil => cases e
  | cons _ τ a b l' _ hu hr =>
    simp only [plainP, List.map_cons, List.cons.injEq, Prod.mk.injEq] at e
    obtain ⟨⟨rfl, rfl⟩, rfl⟩ := e
    refine ⟨_, hu, fun E X h => ?_⟩
    obtain ⟨v4, q4, rfl, g1, g2, g3⟩ := h
    exact ⟨_, _, rfl, .inl ⟨τ, q4, rfl, ⟨(hu.inv hi (.of ha) (.of hb) hP).1, g3, hr⟩, g1, g2⟩⟩
  | bad _ a b l' e' hu =>
    simp only [plainP, List.map_cons, List.cons.injEq, Prod.mk.injEq] at e
    obtain ⟨⟨rfl, rfl⟩, rfl⟩ := e
    exact ⟨_, hu, fun E X h => ⟨_, _, h, .inr ⟨e', rfl, rfl, rfl⟩⟩⟩
set_option maxRecDepth 100000 in
set_option maxHeartbeats 2000000 in
theorem rall_uni {S : USet} (hS : S.V.length < 900) (l : List (Tl × Tl)) (hl : l.length ≤ 1000) (r : UR) (v : Value) (w : World) (h : UniAll T.var (plainP l) r) (hO : ∀ x ∈ l, S.O x.1.1 ∧ S.O x.2.1 ∧ S.P x.1.1 x.2.1) (hv : P2At v l w) :
    Calls Tryd.prog 17 #[v] w fun E w' => RRes S r E w' ∧ Below w.heap.size w w' := by
  have HP := Lib.hid hv
  obtain ⟨va, vc, rfl, hcap, _⟩ := hv
  have HL0 := Lib.hid (show LaI S l r 0 (.slice none 0 0) (.int .i64 0) w from .inl ⟨T.var, [], rfl, ⟨uinv_var S, pinv_nil S, h⟩, .inl ⟨rfl, rfl⟩, fun _ h => nomatch h⟩)
  have HO := Lib.hid hO
  clear h hO
  go_enter Tryd.func17, Tryd.ntmps17
  go_wp2
  go_loopw [4, 5, 6] (fun vx vb vi wr => ∃ i : Nat, i ≤ l.length ∧ vi = .int .i64 i ∧ Hid (LaI S l r i vx vb wr) ∧ Hid (Below w.heap.size w wr)) (fun _ _ vi _ => l.length - (intOf vi).toNat)
  case atStart => exact ⟨0, Nat.zero_le _, rfl, HL0, Lib.hid (Below.refl _ _)⟩
  case round =>
    obtain ⟨i, hi', rfl, hL, hB⟩ := hrel
    rcases hL.out with ⟨ρ, q, rfl, ⟨h1, h3, h4⟩, h5, h6⟩ | ⟨e, rfl, rfl, hr⟩
    · by_cases hlt : i < l.length
      · have hiz : (i : Int) < (l.length : Int) := by omega
        obtain ⟨_, _, e9, _, hrow⟩ := HP.out.below hB.out
        cases e9
        obtain ⟨g, rfl, lg, ⟨⟨x0, x1, x2⟩, y0, y1, y2⟩, xk, yk⟩ := hrow i hlt
        obtain ⟨oa, ob, oP⟩ := HO.out _ (List.getElem_mem hlt)
        obtain ⟨r1, hr1, hn⟩ := la_next hlt h4 h1 oa ob oP
        have hd0 : Below wr.heap.size wr wr.drew := (Below.refl _ wr).drew
        have HC := Lib.hid (runi_any (w := wr.drew) hS hr1 h1 (.of oa) (.of ob) oP h3 (h5.below hd0) (h6.keep (KeepT.of_below hd0)) (xk.keep (KeepT.of_below hd0)) (yk.keep (KeepT.of_below hd0)))
        have HN := Lib.hid hn
        have HD0 := Lib.hid hd0
        clear h1 h3 h4 h5 h6 hr1 oa ob oP xk yk hd0 hL hn hrow
        generalize l[i] = q1 at *
        go_wp2
        go_region_with (go_at_call 27; refine HC.out.mono ?_; rintro E w4 ⟨h4, hb4⟩; obtain ⟨vs4, vb4, rfl, hl4⟩ := HN.out _ _ h4; have HL4 := Lib.hid hl4; have HB4 := Lib.hid (hB.out.trans ((HD0.out.trans hb4).mono hB.out.size)); clear h4 hb4 hl4 HC HN)
        all_goals
          go_wp2
          go_roundw
          case rel => exact ⟨i + 1, by omega, by go_num, HL4, HB4⟩
          case measure => simp [intOf]; omega
      · have hiz : ¬ ((i : Int) < (l.length : Int)) := by omega
        have hrr : r = .ok ρ := by
          rw [List.drop_eq_nil_of_le (show l.length ≤ i by omega)] at h4
          cases h4; rfl
        subst hrr
        have H3 := Lib.hid h3; have H5 := Lib.hid h5; have H6 := Lib.hid h6
        clear h1 h3 h4 h5 h6 hL
        go_wp2
        exact bodyPost_ret (v := .tuple #[u4, .int .i64 0]) (by simp [results, Tryd.results17, go_sem]) rfl ⟨⟨u4, q, rfl, H5.out, H6.out, H3.out⟩, hB.out⟩
    · subst hr
      clear hL
      cases e with
      | true =>
        simp only [if_true]
        by_cases hlt : i < l.length
        · have hiz : (i : Int) < (l.length : Int) := by omega
          go_wp2
          exact bodyPost_ret (v := .tuple #[.slice none 0 0, .int .i64 107]) (by simp [results, Tryd.results17, go_sem]) rfl ⟨rfl, hB.out⟩
        · have hiz : ¬ ((i : Int) < (l.length : Int)) := by omega
          go_wp2
          exact bodyPost_ret (v := .tuple #[.slice none 0 0, .int .i64 107]) (by simp [results, Tryd.results17, go_sem]) rfl ⟨rfl, hB.out⟩
      | false =>
        simp only [Bool.false_eq_true, if_false]
        by_cases hlt : i < l.length
        · have hiz : (i : Int) < (l.length : Int) := by omega
          go_wp2
          exact bodyPost_ret (v := .tuple #[.slice none 0 0, .int .i64 106]) (by simp [results, Tryd.results17, go_sem]) rfl ⟨rfl, hB.out⟩
        · have hiz : ¬ ((i : Int) < (l.length : Int)) := by omega
          go_wp2
          exact bodyPost_ret (v := .tuple #[.slice none 0 0, .int .i64 106]) (by simp [results, Tryd.results17, go_sem]) rfl ⟨rfl, hB.out⟩
end Go.Proofs.YthpphjkoiipkkaaDoor
