/- Merged: MtT, MpF, MpT, MpU, MtU, MakeTypeN, MakeStepN, MakeAllN, MlA, McA, McR1, McR2. -/
import Derived.Test.YtdcfemojkdoakaaVm5
import Derived.Test.YtdcfemojkdoakaaVm3
import Derived.Deep.RegionHeld3
import Derived.Test.YtdcfemojkdoakaaVm2
import Derived.Test.YtdcfemojkdoakaaVm4
/- The document's match, of any two types. -/
namespace Go.Proofs.Ytdcfemojkdoakaa
open Go.RowKit Go.Sort Go.Lib
attribute [local go_sem] Oper.semAt_some

/-- What match hands back. -/
def MRes2 (N : Nat) (r : Option (List (ByteArray × T))) (E : Ending) (w' : World) : Prop :=
  match r with
  | none => ∃ v, E = .returned (.tuple #[v, .bool false])
  | some s' => ∃ v q, E = .returned (.tuple #[v, .bool true]) ∧ GivenG 49 v q w' ∧ Typ q w' ∧ q.map nt = s' ∧ (∀ x ∈ q, Fits x.t) ∧ q.length ≤ N
/-- Where the loop over the parts stands. -/
def MpI (f N : Nat) (a b : T) (r : Option (List (ByteArray × T))) (i : Nat) (vs vb : Value) (X : World) : Prop :=
  (∃ q, vb = .bool true ∧ (mtL (mt f) (q.map nt) (a.kids.drop i) (b.kids.drop i) = r ∧ (∀ x ∈ q, Fits x.t) ∧ q.length + tsizes (a.kids.drop i) ≤ N) ∧ GivenG 49 vs q X ∧ Typ q X) ∨ (vb = .bool false ∧ r = none)
theorem mp_next {f N : Nat} {a b : T} {r : Option (List (ByteArray × T))} {i : Nat} {q : List PR} (h1 : i < a.kids.length) (h2 : i < b.kids.length) (hl : mtL (mt f) (q.map nt) (a.kids.drop i) (b.kids.drop i) = r) (hN : q.length + tsizes (a.kids.drop i) ≤ N)
    (E : Ending) (X : World) (hr : MRes2 (q.length + tsize a.kids[i]) (mt f (q.map nt) a.kids[i] b.kids[i]) E X) : ∃ vs vb, E = .returned (.tuple #[vs, vb]) ∧ MpI f N a b r (i + 1) vs vb X := by
  rw [List.drop_eq_getElem_cons h1, tsizes] at hN
  rw [List.drop_eq_getElem_cons h1, List.drop_eq_getElem_cons h2, mtL] at hl
  cases e : mt f (q.map nt) a.kids[i] b.kids[i] with
  | none =>
    rw [e] at hr hl
    obtain ⟨v, rfl⟩ := hr
    exact ⟨v, _, rfl, .inr ⟨rfl, hl.symm⟩⟩
  | some s' =>
    rw [e] at hr hl
    obtain ⟨v, q', rfl, g1, g2, g3, g4, g5⟩ := hr
    exact ⟨v, _, rfl, .inl ⟨q', rfl, ⟨by rw [g3]; exact hl, g4, by omega⟩, g1, g2⟩⟩
/-- Both boxes at the beginning. -/
structure MBox (w : World) (a b : T) (ka kb : Int) (pa pb : Option Addr) (ca cb : Nat) (X : World) : Prop where
  a4 : X.heap[w.heap.size]? = some (.cells #[.int .i64 ka, .string a.name, .slice pa a.kids.length ca] 26 (0, 0))
  b5 : X.heap[w.heap.size + 1]? = some (.cells #[.int .i64 kb, .string b.name, .slice pb b.kids.length cb] 26 (0, 0))
  at4 : TysAt X (.slice pa a.kids.length ca) a.kids
  at5 : TysAt X (.slice pb b.kids.length cb) b.kids
  low : Below w.heap.size w X
theorem MBox.below {w : World} {a b : T} {ka kb : Int} {pa pb : Option Addr} {ca cb : Nat} {X Y : World} (h : MBox w a b ka kb pa pb ca cb X) (hb : Below X.heap.size X Y) : MBox w a b ka kb pa pb ca cb Y :=
  ⟨(hb.block _ (Array.getElem?_eq_some_iff.1 h.a4).1).trans h.a4, (hb.block _ (Array.getElem?_eq_some_iff.1 h.b5).1).trans h.b5, h.at4.keep (KeepT.of_below hb), h.at5.keep (KeepT.of_below hb), h.low.trans (hb.mono h.low.size)⟩
theorem MBox.start {w : World} {a b : T} {pa pb : Option Addr} {ca cb : Nat} (ha : TysAt w (.slice pa a.kids.length ca) a.kids) (hb : TysAt w (.slice pb b.kids.length cb) b.kids) : MBox w a b a.kind b.kind pa pb ca cb ((w.alloc (.cells #[.int .i64 a.kind, .string a.name, .slice pa a.kids.length ca] 26)).alloc (.cells #[.int .i64 b.kind, .string b.name, .slice pb b.kids.length cb] 26)) :=
  have h := below_two w (.cells #[.int .i64 a.kind, .string a.name, .slice pa a.kids.length ca] 26) (.cells #[.int .i64 b.kind, .string b.name, .slice pb b.kids.length cb] 26)
  ⟨(Below.heap_alloc _ _ _ (by simp)).trans (alloc_new w _), new_two w _ _, ha.keep (KeepT.of_below h), hb.keep (KeepT.of_below h), h⟩

theorem mt_var {f : Nat} {d : List PR} {a b : T} (hv : a.kind = 1) : mt (f + 1) (d.map nt) a b = match (lk a.name d).map PR.t with | some t => if eqB t b = true then some (d.map nt) else none | none => some (d.map nt ++ [(a.name, b)]) := by
  rw [mt, if_pos hv, lkt_nt]; rfl
theorem mt_parts {f : Nat} {d : List PR} {a b : T} (hv : ¬ a.kind = 1) (h : a.kind = b.kind ∧ a.name = b.name ∧ a.kids.length = b.kids.length) : mt (f + 1) (d.map nt) a b = mtL (mt f) (d.map nt) a.kids b.kids := by
  rw [mt, if_neg hv, if_pos h]
theorem mt_bad {f : Nat} {d : List PR} {a b : T} (hv : ¬ a.kind = 1) (h : ¬ (a.kind = b.kind ∧ a.name = b.name ∧ a.kids.length = b.kids.length)) : mt (f + 1) (d.map nt) a b = none := by
  rw [mt, if_neg hv, if_neg h]
end Go.Proofs.Ytdcfemojkdoakaa
/- The program's fit. -/
namespace Go.Proofs.Ytdcfemojkdoakaa
open Go.RowKit Go.Maps Go.Sort Go.Lib
attribute [local go_sem] Oper.semAt_some

/-- What fit tells. -/
def FitR (B g mb N : Nat) (r : Option (List (ByteArray × T))) (e : Ending) (w' : World) : Prop :=
  e = .returned (.bool r.isSome) ∧ ∀ s', r = some s' → ∃ q, MM B g mb q w' ∧ q.map nt = s' ∧ q.length ≤ N
def FitOK (f : Nat) : Prop := ∀ (a b : T) (B g mb : Nat) (d : List PR) (pa pb : Option Addr) (ca cb : Nat) (w : World), tsize a ≤ f → MM B g mb d w → B ≤ w.heap.size → Fits b → (∀ x ∈ vs a, x.size ≤ 1000) → d.length + tsize a ≤ 1000000 →
  TysAt w (.slice pa a.kids.length ca) a.kids → TysAt w (.slice pb b.kids.length cb) b.kids →
  Calls Try.prog 16 #[mp g, .agg #[.int .i64 a.kind, .string a.name, .slice pa a.kids.length ca], .agg #[.int .i64 b.kind, .string b.name, .slice pb b.kids.length cb]] w fun e w' =>
    FitR B g mb (d.length + tsize a) (mt f (d.map nt) a b) e w' ∧ KeepM w w' ∧ Below B w w'
/-- Where the loop over the parts stands. -/
def FpI (B g mb f N : Nat) (a b : T) (r : Option (List (ByteArray × T))) (i : Nat) (X : World) : Prop :=
  ∃ q, MM B g mb q X ∧ mtL (mt f) (q.map nt) (a.kids.drop i) (b.kids.drop i) = r ∧ q.length + tsizes (a.kids.drop i) ≤ N
/-- Both boxes, and what else stays. -/
structure FBox (B : Nat) (w : World) (a b : T) (ka kb : Int) (pa pb : Option Addr) (ca cb : Nat) (X : World) : Prop where
  a4 : X.heap[w.heap.size]? = some (.cells #[.int .i64 ka, .string a.name, .slice pa a.kids.length ca] 26 (0, 0))
  b5 : X.heap[w.heap.size + 1]? = some (.cells #[.int .i64 kb, .string b.name, .slice pb b.kids.length cb] 26 (0, 0))
  at4 : TysAt X (.slice pa a.kids.length ca) a.kids
  at5 : TysAt X (.slice pb b.kids.length cb) b.kids
  keep : KeepM w X
  low : Below B w X
theorem FBox.go {B : Nat} {w : World} {a b : T} {ka kb : Int} {pa pb : Option Addr} {ca cb : Nat} {X Y : World} (h : FBox B w a b ka kb pa pb ca cb X) (hk : KeepM X Y) (hb : Below B X Y) : FBox B w a b ka kb pa pb ca cb Y :=
  ⟨hk _ _ _ _ h.a4 (by decide) (by decide), hk _ _ _ _ h.b5 (by decide) (by decide), h.at4.keep hk.tys, h.at5.keep hk.tys, h.keep.trans hk, h.low.trans hb⟩
theorem FBox.start {B : Nat} {w : World} {a b : T} {pa pb : Option Addr} {ca cb : Nat} (hB : B ≤ w.heap.size) (ha : TysAt w (.slice pa a.kids.length ca) a.kids) (hb : TysAt w (.slice pb b.kids.length cb) b.kids) : FBox B w a b a.kind b.kind pa pb ca cb ((w.alloc (.cells #[.int .i64 a.kind, .string a.name, .slice pa a.kids.length ca] 26)).alloc (.cells #[.int .i64 b.kind, .string b.name, .slice pb b.kids.length cb] 26)) :=
  have h := MBox.start (a := a) (b := b) ha hb
  ⟨h.a4, h.b5, h.at4, h.at5, KeepM.of_below h.low, h.low.mono hB⟩
theorem fp_next {B g mb f N : Nat} {a b : T} {r : Option (List (ByteArray × T))} {i : Nat} {q : List PR} (h1 : i < a.kids.length) (h2 : i < b.kids.length) (hl : mtL (mt f) (q.map nt) (a.kids.drop i) (b.kids.drop i) = r) (hN : q.length + tsizes (a.kids.drop i) ≤ N)
    (E : Ending) (X : World) (hr : FitR B g mb (q.length + tsize a.kids[i]) (mt f (q.map nt) a.kids[i] b.kids[i]) E X) : (E = .returned (.bool true) ∧ FpI B g mb f N a b r (i + 1) X) ∨ (E = .returned (.bool false) ∧ r = none) := by
  rw [List.drop_eq_getElem_cons h1, tsizes] at hN
  rw [List.drop_eq_getElem_cons h1, List.drop_eq_getElem_cons h2, mtL] at hl
  cases e : mt f (q.map nt) a.kids[i] b.kids[i] with
  | none =>
    rw [e] at hr hl
    exact .inr ⟨hr.1, hl.symm⟩
  | some s' =>
    rw [e] at hr hl
    obtain ⟨q', g1, g2, g3⟩ := hr.2 s' rfl
    exact .inl ⟨hr.1, q', g1, by rw [g2]; exact hl, by omega⟩
theorem lookup_var {d : List PR} {a b : T} {f : Nat} (hv : a.kind = 1) : mt (f + 1) (d.map nt) a b = match (lk a.name d).map PR.t with | some t => if eqB t b = true then some (d.map nt) else none | none => some (d.map nt ++ [(a.name, b)]) := mt_var hv
set_option maxRecDepth 100000 in
set_option maxHeartbeats 8000000 in
theorem fit_step (f : Nat) (IH : FitOK f) : FitOK (f + 1) := by
  intro a b B g mb d pa pb ca cb w hf hM hB hfb hns hN hta htb
  have hF0 := FBox.start (a := a) (b := b) hB hta htb
  have hpos := tsize_pos a
  have hbt := below_two w (.cells #[.int .i64 a.kind, .string a.name, .slice pa a.kids.length ca] 26) (.cells #[.int .i64 b.kind, .string b.name, .slice pb b.kids.length cb] 26)
  obtain ⟨ka, hka⟩ : ∃ k, a.kind = k := ⟨_, rfl⟩
  obtain ⟨kb, hkb⟩ : ∃ k, b.kind = k := ⟨_, rfl⟩
  by_cases hv : a.kind = 1
  · have hr := mt_var (f := f) (d := d) (b := b) hv
    have hnm : a.name.size ≤ 1000 := hns a.name (by rw [isV_var (isV_kind.2 hv)]; simp [vs, T.name])
    have hbc := become_any (hM.below hbt) (by simp; omega) hnm (by omega) hfb hF0.at5
    obtain rfl : ka = 1 := hka.symm.trans hv
    have HBc := Lib.hid hbc; have HF0 := Lib.hid hF0; have HR := Lib.hid hr
    rw [hka, hkb]
    rw [hka, hkb] at HF0 HBc
    clear hM hF0 hbc hr hta htb hns hfb hka hkb hv IH hbt hf
    go_enter Try.func16, Try.ntmps16
    go_wp2_with (go_at_call 19; refine HBc.out.mono ?_; rintro e w2 h2; have H2 := Lib.hid h2; obtain ⟨vb, rfl⟩ : ∃ vb, e = .returned (.bool vb) := (by unfold BecR at h2; cases hl : lk a.name d with | none => (rw [hl] at h2; exact ⟨_, h2.1.1⟩) | some x => (rw [hl] at h2; exact ⟨_, h2.1.1⟩)); clear h2)
    refine bodyPost_ret (v := .bool vb) (by simp [results, Try.results16, go_sem]) rfl ?_
    have h2 := H2.out
    unfold BecR at h2
    have hfb := HF0.out.go h2.2.1 h2.2.2
    refine ⟨?_, hfb.keep, hfb.low⟩
    rw [HR.out]
    cases hl : lk a.name d with
    | none =>
      rw [hl] at h2
      obtain ⟨⟨he, x, hx1, hx2, hm⟩, _⟩ := h2
      refine ⟨by rw [he]; rfl, fun s' e => ?_⟩
      simp only [Option.map_none, Option.some.injEq] at e
      subst e
      exact ⟨d ++ [x], hm, by rw [List.map_append]; simp [nt, hx1, hx2], by rw [List.length_append, List.length_singleton]; omega⟩
    | some x =>
      rw [hl] at h2
      obtain ⟨⟨he, hm⟩, _⟩ := h2
      simp only [Option.map_some]
      cases hq : eqB x.t b with
      | true => exact ⟨by rw [he, hq]; rfl, fun s' e => ⟨d, hm, by simpa using e, by omega⟩⟩
      | false => exact ⟨by rw [he, hq]; rfl, fun s' e => by simp at e⟩
  · by_cases hall : a.kind = b.kind ∧ a.name = b.name ∧ a.kids.length = b.kids.length
    · have hr := mt_parts (f := f) (d := d) hv hall
      have hav : a.isV = false := by
        cases hb : a.isV with
        | false => rfl
        | true => exact absurd (isV_kind.1 hb) hv
      obtain ⟨hkk, hnn, hll⟩ := hall
      rw [hka] at hkk hv
      obtain rfl : kb = ka := hkb.symm.trans hkk.symm
      have hnmB : (a.name.toList == b.name.toList) = true := by rw [hnn]; simp
      have hllI : ((a.kids.length : Int) = (b.kids.length : Int)) := by omega
      have hkB : (kb == 1) = false := by simpa using hv
      have hkl : a.kids.length ≤ 1000000 := by have := len_sizes' a.kids; rw [tsize_eq] at hN; omega
      have hsz := tsize_eq a
      have HL0 := Lib.hid (show FpI B g mb f (d.length + tsize a) a b (mt (f + 1) (d.map nt) a b) 0 ((w.alloc (.cells #[.int .i64 a.kind, .string a.name, .slice pa a.kids.length ca] 26)).alloc (.cells #[.int .i64 b.kind, .string b.name, .slice pb b.kids.length cb] 26)) from ⟨d, hM.below hbt, by rw [hr]; simp, by simp; omega⟩)
      have HF0 := Lib.hid hF0
      have hfk : ∀ (i : Nat) (h : i < b.kids.length), Fits b.kids[i] := fun i h => hfb.kid (List.getElem_mem h)
      have hsk : ∀ (i : Nat) (h : i < a.kids.length), tsize a.kids[i] ≤ f ∧ ∀ x ∈ vs a.kids[i], x.size ≤ 1000 := fun i h => ⟨by have := tsize_kids_le (List.getElem_mem h); omega, fun x hx => hns x ((vs_kids hav).2 ⟨_, List.getElem_mem h, hx⟩)⟩
      have HFk := Lib.hid hfk; have HSk := Lib.hid hsk; have HLl := Lib.hid hll; have HN := Lib.hid hN; have HB := Lib.hid hB
      obtain ⟨r, hrr⟩ : ∃ r, mt (f + 1) (d.map nt) a b = r := ⟨_, rfl⟩
      rw [hrr] at HL0 ⊢
      rw [hka, hkb]
      rw [hka, hkb] at HL0 HF0
      clear hM hr hta htb hll hN hfb hsz hkk hF0 hfk hsk hnn hrr hf hpos hv hka hkb hns hav hB hbt
      go_enter Try.func16, Try.ntmps16
      go_wp2
      go_loopw [41] (fun vi wr => ∃ i : Nat, i ≤ a.kids.length ∧ vi = .int .i64 i ∧ Hid (FpI B g mb f (d.length + tsize a) a b r i wr) ∧ Hid (FBox B w a b kb kb pa pb ca cb wr)) (fun vi _ => a.kids.length - (intOf vi).toNat)
      case atStart => exact ⟨0, Nat.zero_le _, rfl, HL0, HF0⟩
      case round =>
        obtain ⟨i, hi', rfl, hL, hU⟩ := hrel
        have hB5 := hU.out.b5
        obtain ⟨b0, b1, b2⟩ := three_cells hB5
        have lB := (Array.getElem?_eq_some_iff.1 hB5).1
        clear hB5 HL0 HF0
        obtain ⟨q, h1, h2, h3⟩ := hL.out
        by_cases hlt : i < a.kids.length
        · have hlt2 : i < b.kids.length := by have := HLl.out; omega
          have hiz : (i : Int) < (a.kids.length : Int) := by omega
          have hiz2 : (i : Int) < (b.kids.length : Int) := by omega
          obtain ⟨gu, pu, cu, rfl, hcu, hpu⟩ := hU.out.at4.part i hlt
          obtain ⟨gv, pv, cv, rfl, hcv, hpv⟩ := hU.out.at5.part i hlt2
          obtain ⟨⟨lu, x0, x1, x2⟩, xk⟩ := hpu wr (KeepT.refl wr)
          obtain ⟨⟨lv, y0, y1, y2⟩, yk⟩ := hpv wr (KeepT.refl wr)
          have hd0 : ∀ o : Obj, Below wr.heap.size wr (wr.alloc o).drew := fun o => ((Below.refl _ wr).alloc (Nat.le_refl _) o).drew
          have hqk : q.length + tsize a.kids[i] ≤ 1000000 := by
            have := HN.out
            have h3' := h3
            rw [List.drop_eq_getElem_cons hlt, tsizes] at h3'; omega
          have hBr : B ≤ wr.heap.size := Nat.le_trans HB.out hU.out.low.size
          have HC := Lib.hid (fun o : Obj => IH a.kids[i] b.kids[i] B g mb q pu pv cu cv (wr.alloc o).drew (HSk.out i hlt).1 (h1.below (hd0 o)) (by show B ≤ (wr.alloc o).heap.size; simp; omega) (HFk.out i hlt2) (HSk.out i hlt).2 hqk (xk.keep (KeepT.of_below (hd0 o))) (yk.keep (KeepT.of_below (hd0 o))))
          have HNx := Lib.hid (fun E X h => fp_next (B := B) (g := g) (mb := mb) (E := E) (X := X) hlt hlt2 h2 h3 h)
          have HD0 := Lib.hid (fun o : Obj => And.intro (KeepM.of_below (hd0 o)) ((hd0 o).mono hBr))
          clear h1 h2 h3 hpu hpv xk yk hd0 hL hqk HFk HSk hBr
          generalize a.kids[i] = ku1 at *
          generalize b.kids[i] = kv1 at *
          go_wp2
          go_region_with (go_at_call 16; refine (HC.out _).mono ?_; rintro E w4 ⟨h4, hk4, hb4⟩; have hn4 := HNx.out _ _ h4; have HU4 := Lib.hid (hU.out.go ((HD0.out _).1.trans hk4) ((HD0.out _).2.trans hb4)); have HN4 := Lib.hid hn4; obtain ⟨vb, rfl⟩ : ∃ vb, E = .returned (.bool vb) := (hn4.elim (fun h => ⟨_, h.1⟩) fun h => ⟨_, h.1⟩); clear h4 hk4 hb4 hn4 HC HNx)
          all_goals
            cases vb with
            | true =>
              have hL4 := HN4.out.resolve_right (fun h => by have := h.1; cases this)
              have HL4 := Lib.hid hL4.2
              clear hL4 HN4
              go_wp2
              go_roundw
              case rel => exact ⟨i + 1, by omega, by go_num, HL4, HU4⟩
              case measure => simp [intOf]; omega
            | false =>
              have hL4 := HN4.out.resolve_left (fun h => by have := h.1; cases this)
              have hrn := hL4.2
              clear hL4 HN4
              go_wp2
              exact bodyPost_ret (v := .bool false) (by simp [results, Try.results16, go_sem]) rfl ⟨⟨by rw [hrn]; rfl, fun s' e => by rw [hrn] at e; cases e⟩, HU4.out.keep, HU4.out.low⟩
        · have hiz : ¬ ((i : Int) < (a.kids.length : Int)) := by omega
          rw [List.drop_eq_nil_of_le (show a.kids.length ≤ i by omega)] at h2 h3
          have hrr : r = some (q.map nt) := by rw [← h2]; simp [mtL]
          subst hrr
          have H1 := Lib.hid h1; have H3 := Lib.hid h3
          clear h1 h2 h3 hL
          go_wp2
          exact bodyPost_ret (v := .bool true) (by simp [results, Try.results16, go_sem]) rfl ⟨⟨rfl, fun s' e => ⟨q, H1.out, by simpa using e, by have := H3.out; omega⟩⟩, hU.out.keep, hU.out.low⟩
    · have hr := mt_bad (f := f) (d := d) hv hall
      have HF0 := Lib.hid (And.intro hF0.keep hF0.low)
      rw [hr]
      have HRes : Hid (∀ X, KeepM w X → Below B w X → FitR B g mb (d.length + tsize a) none (.returned (.bool false)) X ∧ KeepM w X ∧ Below B w X) := Lib.hid fun X h1 h2 => ⟨⟨rfl, fun s' e => (nomatch e)⟩, h1, h2⟩
      by_cases hkk : a.kind = b.kind
      · by_cases hnn : a.name = b.name
        · have hll : ¬ a.kids.length = b.kids.length := fun e => hall ⟨hkk, hnn, e⟩
          rw [hka] at hkk hv
          obtain rfl : kb = ka := hkb.symm.trans hkk.symm
          have hnmB : (a.name.toList == b.name.toList) = true := by rw [hnn]; simp
          have hllI : ¬ ((a.kids.length : Int) = (b.kids.length : Int)) := by omega
          have hkB : (kb == 1) = false := by simpa using hv
          rw [hka, hkb]
          rw [hka, hkb] at HF0
          clear hM hr hta htb hll hN hfb hkk hF0 hnn hf hpos hv hall hka hkb IH hns hbt
          go_enter Try.func16, Try.ntmps16
          go_wp2
          exact bodyPost_ret (v := .bool false) (by simp [results, Try.results16, go_sem]) rfl (HRes.out _ HF0.out.1 HF0.out.2)
        · rw [hka] at hkk hv
          obtain rfl : kb = ka := hkb.symm.trans hkk.symm
          have hnmB : (a.name.toList == b.name.toList) = false := by rw [bytes_beq]; exact eqB_false hnn
          have hkB : (kb == 1) = false := by simpa using hv
          rw [hka, hkb]
          rw [hka, hkb] at HF0
          clear hM hr hta htb hN hfb hkk hF0 hnn hf hpos hv hall hka hkb IH hns hbt
          go_enter Try.func16, Try.ntmps16
          go_wp2
          exact bodyPost_ret (v := .bool false) (by simp [results, Try.results16, go_sem]) rfl (HRes.out _ HF0.out.1 HF0.out.2)
      · rw [hka] at hv
        rw [hka, hkb] at hkk
        have hkB : (ka == 1) = false := by simpa using hv
        have hkB2 : ¬ ka = kb := hkk
        rw [hka, hkb]
        rw [hka, hkb] at HF0
        clear hM hr hta htb hN hfb hkk hF0 hf hpos hv hall hka hkb IH hns hbt
        go_enter Try.func16, Try.ntmps16
        go_wp2
        exact bodyPost_ret (v := .bool false) (by simp [results, Try.results16, go_sem]) rfl (HRes.out _ HF0.out.1 HF0.out.2)
theorem fit_ok : ∀ f, FitOK f
  | 0 => fun a _ _ _ _ _ _ _ _ _ _ hf => absurd (tsize_pos a) (by omega)
  | f + 1 => fit_step f (fit_ok f)
end Go.Proofs.Ytdcfemojkdoakaa
/- The program's Match and Both. -/
namespace Go.Proofs.Ytdcfemojkdoakaa
open Go.RowKit Go.Maps Go.Sort Go.Lib
attribute [local go_sem] Oper.semAt_some

/-- What Match tells. -/
def PMat (a b : T) (e : Ending) (w' : World) : Prop :=
  ∃ sv l, e = .returned (.tuple #[.agg #[sv], .bool (mt (tsize a) [] a b).isSome]) ∧ SubAt sv l w' ∧ l.length < 20 ∧ ((mt (tsize a) [] a b).isSome = true → app l a = b ∧ ∀ x ∈ l, tsize x.t ≤ tsize b)
theorem below_3 (w : World) (o1 o2 o3 : Obj) : Below w.heap.size w (((w.alloc o1).alloc o2).alloc o3) := (below_two w o1 o2).alloc (by simp; omega) _
theorem subAt_none (w : World) : SubAt (.slice none 0 0) [] w := ⟨⟨.inl ⟨rfl, none, 0, rfl, fun _ => rfl⟩, gath_nil.neat⟩, fun _ hx => nomatch hx⟩
set_option maxRecDepth 100000 in
set_option maxHeartbeats 8000000 in
theorem pmatch_any {a b : T} {V : List ByteArray} {pa pb : Option Addr} {ca cb : Nat} {w : World} (ha : tsize a ≤ 900000) (hb : tsize b ≤ 900000000) (hV : TIn V a) (hVl : V.length < 20) (hVn : ∀ x ∈ V, x.size ≤ 1000)
    (hta : TysAt w (.slice pa a.kids.length ca) a.kids) (htb : TysAt w (.slice pb b.kids.length cb) b.kids) :
    Calls Try.prog 8 #[.agg #[.int .i64 a.kind, .string a.name, .slice pa a.kids.length ca], .agg #[.int .i64 b.kind, .string b.name, .slice pb b.kids.length cb]] w fun e w' => PMat a b e w' ∧ Below w.heap.size w w' := by
  have hb3 := below_3 w (.cells #[.int .i64 a.kind, .string a.name, .slice pa a.kids.length ca] 26) (.cells #[.int .i64 b.kind, .string b.name, .slice pb b.kids.length cb] 26) (.cells #[.slice none 0 0] 36)
  have HM := MBox.start (a := a) (b := b) hta htb
  have hX0 : (((w.alloc (.cells #[.int .i64 a.kind, .string a.name, .slice pa a.kids.length ca] 26)).alloc (.cells #[.int .i64 b.kind, .string b.name, .slice pb b.kids.length cb] 26)).alloc (.cells #[.slice none 0 0] 36)).heap[w.heap.size + 1 + 1]? = some (.cells #[.slice none 0 0] 36 (0, 0)) := by
    have := alloc_new ((w.alloc (.cells #[.int .i64 a.kind, .string a.name, .slice pa a.kids.length ca] 26)).alloc (.cells #[.int .i64 b.kind, .string b.name, .slice pb b.kids.length cb] 26)) (.cells #[.slice none 0 0] 36)
    simpa using this
  have HM3 := HM.below (below_a _ (.cells #[.slice none 0 0] 36))
  obtain ⟨W0, hW0⟩ : ∃ W0, ((w.alloc (.cells #[.int .i64 a.kind, .string a.name, .slice pa a.kids.length ca] 26)).alloc (.cells #[.int .i64 b.kind, .string b.name, .slice pb b.kids.length cb] 26)).alloc (.cells #[.slice none 0 0] 36) = W0 := ⟨_, rfl⟩
  rw [hW0] at hb3 hX0 HM3
  have HN := newMatcher_any W0
  have HFit := fun (g mb : Nat) (W1 : World) (hm : MM W0.heap.size g mb [] W1) (hb : Below W0.heap.size W0 W1) =>
    fit_ok (tsize a) a b W0.heap.size g mb [] pa pb ca cb W1 (Nat.le_refl _) hm hb.size (fits_small (by omega)) (fun x hx => hVn x (hV x hx)) (by simpa using (by omega : tsize a ≤ 1000000)) (HM3.below hb).at4 (HM3.below hb).at5
  have HB3 := Lib.hid hb3; have HX0 := Lib.hid hX0; have HMB := Lib.hid HM3; have HNew := Lib.hid HN; have HFt := Lib.hid HFit
  have hsz := mt_size (tsize a) [] a b
  have hap := fun q h => mt_app (f := tsize a) (a := a) (b := b) (q := q) (V := V) h hV
  have HSz := Lib.hid hsz; have HAp := Lib.hid hap
  obtain ⟨ka, hka⟩ : ∃ k, a.kind = k := ⟨_, rfl⟩
  obtain ⟨kb, hkb⟩ : ∃ k, b.kind = k := ⟨_, rfl⟩
  obtain ⟨r, hr⟩ : ∃ r, mt (tsize a) [] a b = r := ⟨_, rfl⟩
  have HRr := Lib.hid hr
  unfold PMat
  rw [List.map_nil] at HFt
  rw [hr] at HFt HSz ⊢
  rw [hka, hkb] at HMB HFt hW0
  rw [hka, hkb]
  have HW0 := Lib.hid hW0
  rw [← hW0] at HNew
  have hl2 : w.heap.size < W0.heap.size := by have := (Array.getElem?_eq_some_iff.1 hX0).1; omega
  have hl3 : w.heap.size + 1 < W0.heap.size := by have := (Array.getElem?_eq_some_iff.1 hX0).1; omega
  have hl4 : w.heap.size + 1 + 1 < W0.heap.size := (Array.getElem?_eq_some_iff.1 hX0).1
  clear hb3 HM hX0 HM3 HN HFit hsz hap hta htb hka hkb hr hV hVn hW0
  cases r with
  | none =>
    go_enter Try.func8, Try.ntmps8
    go_wp2_with (first
      | (go_at_call 15; refine HNew.out.mono ?_; rintro e w1 ⟨⟨g, mb, rfl, hm⟩, hb1⟩; rw [HW0.out] at hm hb1; have h1 := HMB.out.below hb1; obtain ⟨a0, a1, a2⟩ := three_cells h1.a4; obtain ⟨b0, b1, b2⟩ := three_cells h1.b5; have hs1 := hb1.size; have HM1 := Lib.hid hm; have HB1 := Lib.hid hb1; clear hm hb1 h1 HNew)
      | (go_at_call 16; refine (HFt.out _ _ _ HM1.out HB1.out).mono ?_; rintro e w2 ⟨⟨rfl, _⟩, hk2, hb2⟩; have hx2 := hk2 _ _ _ _ ((HB1.out.block _ hl4).trans HX0.out) (by decide) (by decide); have z0 := (Lib.cell_of_heap hx2 0).trans rfl; have zf := Lib.frozen_of_heap hx2 0; have zl := (Array.getElem?_eq_some_iff.1 hx2).1; have HB2 := Lib.hid (HB3.out.trans ((HB1.out.trans hb2).mono HB3.out.size)); have HX2 := Lib.hid hx2; clear hk2 hb2 hx2 HFt a0 a1 a2 b0 b1 b2))
    have d2 : (w2.setCell ⟨w.heap.size + 1 + 1, 0, none⟩ (.slice none 0 0)).cell? ⟨w.heap.size + 1 + 1, 0, none⟩ = some (.slice none 0 0) := by rw [Lib.cell_of_heap (blk_set HX2.out (.slice none 0 0))]; rfl
    refine bodyPost_ret (v := .tuple #[.agg #[.slice none 0 0], .bool false]) (by simp [results, Try.results8, go_sem, d2]) rfl ⟨⟨.slice none 0 0, [], rfl, subAt_none _, by simp, (fun e => nomatch e)⟩, HB2.out.setCell (p := ⟨w.heap.size + 1 + 1, 0, none⟩) (by show w.heap.size ≤ w.heap.size + 1 + 1; omega) _⟩
  | some s' =>
    go_enter Try.func8, Try.ntmps8
    go_wp2_with (first
      | (go_at_call 15; refine HNew.out.mono ?_; rintro e w1 ⟨⟨g, mb, rfl, hm⟩, hb1⟩; rw [HW0.out] at hm hb1; have h1 := HMB.out.below hb1; obtain ⟨a0, a1, a2⟩ := three_cells h1.a4; obtain ⟨b0, b1, b2⟩ := three_cells h1.b5; have hs1 := hb1.size; have HM1 := Lib.hid hm; have HB1 := Lib.hid hb1; clear hm hb1 h1 HNew)
      | (go_at_call 16; refine (HFt.out _ _ _ HM1.out HB1.out).mono ?_; rintro e w2 ⟨⟨rfl, hq⟩, hk2, hb2⟩; obtain ⟨q, hm2, hqn, _⟩ := hq s' rfl; have hx2 := hk2 _ _ _ _ ((HB1.out.block _ hl4).trans HX0.out) (by decide) (by decide); obtain ⟨pv, hg2, ho2, hn2⟩ := hm2.top; have g0 := (Lib.cell_of_heap hg2 0).trans rfl; have gl := (Array.getElem?_eq_some_iff.1 hg2).1; have HB2 := Lib.hid (HB3.out.trans ((HB1.out.trans hb2).mono HB3.out.size)); have HX2 := Lib.hid hx2; have HM2 := Lib.hid hm2; have HQn := Lib.hid hqn; have HGv := Lib.hid (given_of_row ho2 hn2); clear hk2 hb2 hx2 HFt a0 a1 a2 b0 b1 b2 hq hg2 ho2 hn2 hm2 hqn)
      | (go_at_call 17; have hqs : SizedAll q := (fun x hx => by have h1 := HSz.out s' rfl (nt x) (by rw [← HQn.out]; exact List.mem_map.2 ⟨x, hx, rfl⟩); rcases h1 with h1 | h1; (cases h1); (have h1' : tsize x.t ≤ tsize b := h1; omega)); refine (of_any HGv.out HM2.out.typ HM2.out.fits hqs (by have := (HAp.out q (HRr.out.trans (congrArg some HQn.out.symm))).2; omega)).mono ?_; rintro e w3 ⟨⟨sv, l, rfl, hs3, hmd⟩, hb3⟩; obtain ⟨sa, sc, rfl⟩ := hs3.shape; have hx3 := (hb3.block _ (Array.getElem?_eq_some_iff.1 HX2.out).1).trans HX2.out; have z0 := (Lib.cell_of_heap hx3 0).trans rfl; have zf := Lib.frozen_of_heap hx3 0; have zl := (Array.getElem?_eq_some_iff.1 hx3).1; have HB4 := Lib.hid (HB2.out.trans (hb3.mono HB2.out.size)); have HX3 := Lib.hid hx3; have HS3 := Lib.hid hs3; have HMd := Lib.hid hmd; clear hb3 hx3 hs3 hmd g0 gl))
    have d2 : (w3.setCell ⟨w.heap.size + 1 + 1, 0, none⟩ (.slice sa l.length sc)).cell? ⟨w.heap.size + 1 + 1, 0, none⟩ = some (.slice sa l.length sc) := by rw [Lib.cell_of_heap (blk_set HX3.out (.slice sa l.length sc))]; rfl
    have hap := HAp.out q (HRr.out.trans (congrArg some HQn.out.symm))
    refine bodyPost_ret (v := .tuple #[.agg #[.slice sa l.length sc], .bool true]) (by simp [results, Try.results8, go_sem, d2]) rfl ⟨⟨.slice sa l.length sc, l, rfl, ?_, by have := HMd.out.len; omega, fun _ => ⟨(made_ty HMd.out a).trans hap.1, fun x hx => ?_⟩⟩, HB4.out.setCell (p := ⟨w.heap.size + 1 + 1, 0, none⟩) (by show w.heap.size ≤ w.heap.size + 1 + 1; omega) _⟩
    · have ho : ∀ k, k ≠ w.heap.size + 1 + 1 → (w3.setCell ⟨w.heap.size + 1 + 1, 0, none⟩ (.slice sa l.length sc)).heap[k]? = w3.heap[k]? := fun k hk => Below.heap_setCell _ ⟨w.heap.size + 1 + 1, 0, none⟩ _ k hk
      have h3 := HS3.out
      refine ⟨⟨?_, h3.1.2⟩, h3.2.keep fun k cs fz hk => (ho k (by rintro rfl; rw [HX3.out] at hk; cases hk)).trans hk⟩
      rcases h3.1.1 with e | ⟨g, cap, e, hc, hr⟩
      · exact .inl e
      · refine .inr ⟨g, cap, e, hc, hr.same (ho g ?_)⟩
        rintro rfl
        obtain ⟨cs, h1, _⟩ := hr
        rw [HX3.out] at h1; cases h1
    · obtain ⟨y, hy, _, e⟩ := HMd.out.sub x hx
      have h1 := HSz.out s' rfl (nt y) (by rw [← HQn.out]; exact List.mem_map.2 ⟨y, hy, rfl⟩)
      rcases h1 with h1 | h1
      · cases h1
      · rw [e]; exact h1
end Go.Proofs.Ytdcfemojkdoakaa
/- The program's Both. -/
namespace Go.Proofs.Ytdcfemojkdoakaa
open Go.RowKit Go.Maps Go.Sort Go.Lib
attribute [local go_sem] Oper.semAt_some

set_option maxRecDepth 100000 in
set_option maxHeartbeats 8000000 in
theorem pboth_any {a b : T} {V : List ByteArray} {pa pb : Option Addr} {ca cb : Nat} {w : World} (ha : tsize a ≤ 900000) (hb : tsize b ≤ 900000) (hV : TIn V a) (hV2 : TIn V b) (hVn : ∀ x ∈ V, x.size ≤ 1000)
    (hta : TysAt w (.slice pa a.kids.length ca) a.kids) (htb : TysAt w (.slice pb b.kids.length cb) b.kids) :
    Calls Try.prog 9 #[.agg #[.int .i64 a.kind, .string a.name, .slice pa a.kids.length ca], .agg #[.int .i64 b.kind, .string b.name, .slice pb b.kids.length cb]] w fun e w' => e = .returned (.bool ((mt (tsize a) [] a b).isSome && (mt (tsize b) [] b a).isSome)) ∧ Below w.heap.size w w' := by
  have HF := FBox.start (B := w.heap.size) (a := a) (b := b) (Nat.le_refl _) hta htb
  have hF1 := HF.go (KeepM.of_below (below_d _)) ((below_d _).mono (by simp; omega))
  obtain ⟨W0, hW0⟩ : ∃ W0, ((w.alloc (.cells #[.int .i64 a.kind, .string a.name, .slice pa a.kids.length ca] 26)).alloc (.cells #[.int .i64 b.kind, .string b.name, .slice pb b.kids.length cb] 26)).drew = W0 := ⟨_, rfl⟩
  rw [hW0] at hF1
  have HN := newMatcher_any W0
  have HFit1 := fun (B g mb : Nat) (W : World) (hm : MM B g mb [] W) (hb' : B ≤ W.heap.size) (hx : FBox w.heap.size w a b a.kind b.kind pa pb ca cb W) =>
    fit_ok (tsize a) a b B g mb [] pa pb ca cb W (Nat.le_refl _) hm hb' (fits_small (by omega)) (fun x hx => hVn x (hV x hx)) (by simpa using (by omega : tsize a ≤ 1000000)) hx.at4 hx.at5
  have HFit2 := fun (B g mb : Nat) (W : World) (hm : MM B g mb [] W) (hb' : B ≤ W.heap.size) (hx : FBox w.heap.size w a b a.kind b.kind pa pb ca cb W) =>
    fit_ok (tsize b) b a B g mb [] pb pa cb ca W (Nat.le_refl _) hm hb' (fits_small (by omega)) (fun x hx => hVn x (hV2 x hx)) (by simpa using (by omega : tsize b ≤ 1000000)) hx.at5 hx.at4
  have HX0 := Lib.hid hF1; have HNew := Lib.hid HN; have HFt1 := HFit1; have HFt2 := HFit2
  obtain ⟨ka, hka⟩ : ∃ k, a.kind = k := ⟨_, rfl⟩
  obtain ⟨kb, hkb⟩ : ∃ k, b.kind = k := ⟨_, rfl⟩
  obtain ⟨r1, hr1⟩ : ∃ r, mt (tsize a) [] a b = r := ⟨_, rfl⟩
  obtain ⟨r2, hr2⟩ : ∃ r, mt (tsize b) [] b a = r := ⟨_, rfl⟩
  rw [List.map_nil] at HFt1 HFt2
  rw [hr1] at HFt1 ⊢
  rw [hr2] at HFt2 ⊢
  rw [hka, hkb] at HX0 HFt1 HFt2 hW0
  rw [hka, hkb]
  rw [← hW0] at HNew
  have HW0 := Lib.hid hW0
  clear HF hF1 HN HFit1 HFit2 hta htb hka hkb hr1 hr2 hV hV2 hVn
  obtain ⟨z0, z1, z2⟩ := three_cells HX0.out.a4
  obtain ⟨z3, z4, z5⟩ := three_cells HX0.out.b5
  rw [← hW0] at z0 z1 z2 z3 z4 z5
  clear hW0
  cases r1 with
  | none =>
    simp only [FitR, Option.isSome_none] at HFt1
    have HF1 := Lib.hid HFt1
    clear HFt1 HFt2
    go_enter Try.func9, Try.ntmps9
    go_wp2
    go_region_with (first
      | (go_at_call 16; refine (HF1.out _ _ _ _ HM1.out HS1.out HX1.out).mono ?_; rintro e w2 ⟨⟨rfl, _⟩, hk2, hb2⟩; have hx2 := HX1.out.go hk2 (hb2.mono HBL1.out); clear z0 z1 z2 z3 z4 z5; obtain ⟨z0, z1, z2⟩ := three_cells hx2.a4; obtain ⟨z3, z4, z5⟩ := three_cells hx2.b5; have HX2 := Lib.hid hx2; clear hk2 hb2 hx2 HF1)
      | (go_at_call 15; refine HNew.out.mono ?_; rintro e w1 ⟨⟨g, mb, rfl, hm⟩, hb1⟩; rw [HW0.out] at hm hb1; have HS1 := Lib.hid hb1.size; have HBL1 := Lib.hid (HX0.out.low.size); have hx1 := HX0.out.go (KeepM.of_below hb1) (hb1.mono HX0.out.low.size); clear z0 z1 z2 z3 z4 z5; obtain ⟨z0, z1, z2⟩ := three_cells hx1.a4; obtain ⟨z3, z4, z5⟩ := three_cells hx1.b5; have HX1 := Lib.hid hx1; have HM1 := Lib.hid hm; clear hm hb1 hx1 HNew))
    all_goals
      go_wp2
      refine bodyPost_ret (v := .bool false) (by simp [results, Try.results9, go_sem, Act.put]) rfl ⟨rfl, HX2.out.low⟩
  | some s1 =>
    simp only [FitR, Option.isSome_some] at HFt1
    have HF1 := Lib.hid HFt1
    obtain ⟨vb, hvb⟩ : ∃ vb, r2.isSome = vb := ⟨_, rfl⟩
    simp only [FitR, hvb] at HFt2
    have HF2 := Lib.hid HFt2
    rw [hvb, Option.isSome_some, Bool.true_and]
    clear HFt1 HFt2 hvb
    go_enter Try.func9, Try.ntmps9
    go_wp2
    go_region_held3 (fun V' => V'.cell? ⟨w.heap.size, 0, none⟩ = some (.int .i64 ka) ∧ V'.cell? ⟨w.heap.size, 1, none⟩ = some (.string a.name) ∧ V'.cell? ⟨w.heap.size, 2, none⟩ = some (.slice pa a.kids.length ca) ∧ V'.cell? ⟨w.heap.size + 1, 0, none⟩ = some (.int .i64 kb) ∧ V'.cell? ⟨w.heap.size + 1, 1, none⟩ = some (.string b.name) ∧ V'.cell? ⟨w.heap.size + 1, 2, none⟩ = some (.slice pb b.kids.length cb)) (first | exact ⟨z0, z1, z2, z3, z4, z5⟩ | fail) (first
      | (go_at_call 16; refine (HF2.out _ _ _ _ HM3.out HS3.out HX3.out).mono ?_; rintro e w4 ⟨⟨rfl, _⟩, hk4, hb4⟩; have hx4 := HX3.out.go hk4 (hb4.mono HS2.out); clear z0 z1 z2 z3 z4 z5; obtain ⟨z0, z1, z2⟩ := three_cells hx4.a4; obtain ⟨z3, z4, z5⟩ := three_cells hx4.b5; have HX4 := Lib.hid hx4; clear hk4 hb4 hx4)
      | (go_at_call 15; have HS2 := Lib.hid HX2.out.low.size; refine (newMatcher_any _).mono ?_; rintro e w3 ⟨⟨g3, mb3, rfl, hm3⟩, hb3⟩; have HS3 := Lib.hid hb3.size; have hx3 := HX2.out.go (KeepM.of_below hb3) (hb3.mono HS2.out); clear z0 z1 z2 z3 z4 z5; obtain ⟨z0, z1, z2⟩ := three_cells hx3.a4; obtain ⟨z3, z4, z5⟩ := three_cells hx3.b5; have HX3 := Lib.hid hx3; have HM3 := Lib.hid hm3; clear hm3 hb3 hx3)
      | (go_at_call 16; refine (HF1.out _ _ _ _ HM1.out HS1.out HX1.out).mono ?_; rintro e w2 ⟨⟨rfl, _⟩, hk2, hb2⟩; have hx2 := HX1.out.go hk2 (hb2.mono HBL1.out); clear z0 z1 z2 z3 z4 z5; obtain ⟨z0, z1, z2⟩ := three_cells hx2.a4; obtain ⟨z3, z4, z5⟩ := three_cells hx2.b5; have HX2 := Lib.hid hx2; clear hk2 hb2 hx2 HF1)
      | (go_at_call 15; refine HNew.out.mono ?_; rintro e w1 ⟨⟨g, mb, rfl, hm⟩, hb1⟩; rw [HW0.out] at hm hb1; have HS1 := Lib.hid hb1.size; have HBL1 := Lib.hid (HX0.out.low.size); have hx1 := HX0.out.go (KeepM.of_below hb1) (hb1.mono HX0.out.low.size); clear z0 z1 z2 z3 z4 z5; obtain ⟨z0, z1, z2⟩ := three_cells hx1.a4; obtain ⟨z3, z4, z5⟩ := three_cells hx1.b5; have HX1 := Lib.hid hx1; have HM1 := Lib.hid hm; clear hm hb1 hx1 HNew))
    all_goals
      go_wp2
      refine bodyPost_ret (v := .bool vb) (by simp [results, Try.results9, go_sem]) rfl ⟨rfl, HX4.out.low⟩
end Go.Proofs.Ytdcfemojkdoakaa
/- The document's Match. -/
namespace Go.Proofs.Ytdcfemojkdoakaa
open Go.RowKit Go.Sort Go.Lib
attribute [local go_sem] Oper.semAt_some

theorem MRes2.told {N : Nat} {r : Option (List (ByteArray × T))} {E : Ending} {w : World} (h : MRes2 N r E w) : ∃ v, E = .returned (.tuple #[v, .bool r.isSome]) ∧ ∀ s', r = some s' → ∃ q, GivenG 49 v q w ∧ Typ q w ∧ q.map nt = s' ∧ (∀ x ∈ q, Fits x.t) ∧ q.length ≤ N := by
  cases r with
  | none =>
    obtain ⟨v, rfl⟩ := h
    exact ⟨v, rfl, fun _ e => nomatch e⟩
  | some s' =>
    obtain ⟨v, q, rfl, h⟩ := h
    exact ⟨v, rfl, fun _ e => ⟨q, by cases e; exact h⟩⟩
end Go.Proofs.Ytdcfemojkdoakaa
/- The types that are made of numbers: good ones, of a bounded text. -/
namespace Go.Proofs.Ytdcfemojkdoakaa
open Go.RowKit
attribute [local go_sem] Oper.semAt_some
attribute [local go_sem ↓] Go.wp_at_zero Go.wp_at_succ

/-- What a maker of a type hands back. -/
def MadeN (B p : Nat) (a : Option Addr) (n c k m D : Nat) (w : World) (e : Ending) (w' : World) : Prop :=
  (∃ t u, e = .returned (tyV t u) ∧ (T.Good t ∧ Fits t ∧ (T.text t).length + 10 ≤ D) ∧ TyIn (fun k => w.heap.size ≤ k) w' t u) ∧ (∃ k', k' + 1 ≤ k + m ∧ SeqAt B p a n c k' w') ∧ MkFr B p w w'
/-- The end: the type is stored in the result's own block. -/
theorem made_fn {B p : Nat} {a : Option Addr} {n c k k' m D : Nat} {w W : World} {O : Obj} {t : T} {u x y z : Value} (hs : SeqAt B p a n c k' W) (hk : k' + 1 ≤ k + m) (hfr : MkFr B p (w.alloc O) W) (hp : p < w.heap.size)
    (_ : W.heap[w.heap.size]? = some (.cells #[.int .i64 0, .string ⟨#[]⟩, .slice none 0 0] 26 (0, 0))) (ht : TyIn (fun k => w.heap.size < k) W t u) (hg : T.Good t ∧ Fits t ∧ (T.text t).length + 10 ≤ D) :
    MadeN B p a n c k m D w (.returned (tyV t u)) (((W.setCell ⟨w.heap.size, 0, none⟩ x).setCell ⟨w.heap.size, 1, none⟩ y).setCell ⟨w.heap.size, 2, none⟩ z) := by
  have hk3 : ∀ i, i ≠ w.heap.size → (((W.setCell ⟨w.heap.size, 0, none⟩ x).setCell ⟨w.heap.size, 1, none⟩ y).setCell ⟨w.heap.size, 2, none⟩ z).heap[i]? = W.heap[i]? := fun i hi =>
    (Below.heap_setCell _ ⟨w.heap.size, 2, none⟩ _ i hi).trans ((Below.heap_setCell _ ⟨w.heap.size, 1, none⟩ _ i hi).trans (Below.heap_setCell _ ⟨w.heap.size, 0, none⟩ _ i hi))
  have hB := hs.1.1
  have hbel : Below B W (((W.setCell ⟨w.heap.size, 0, none⟩ x).setCell ⟨w.heap.size, 1, none⟩ y).setCell ⟨w.heap.size, 2, none⟩ z) :=
    (((Below.refl B W).setCell (p := ⟨w.heap.size, 0, none⟩) (by show B ≤ w.heap.size; omega) _).setCell (p := ⟨w.heap.size, 1, none⟩) (by show B ≤ w.heap.size; omega) _).setCell (p := ⟨w.heap.size, 2, none⟩) (by show B ≤ w.heap.size; omega) _
  refine ⟨⟨t, u, rfl, hg, (ht.keep fun k _ _ hk hh => (hk3 k (Nat.ne_of_gt hk)).trans hh).mono fun k hk => Nat.le_of_lt hk⟩, ⟨k', hk, ⟨hB, (hk3 p (by omega)).trans hs.1.2⟩, hs.2.keep hbel⟩, ?_, ?_⟩
  · exact (((Below.refl B w).alloc (by omega) O).trans hfr.1).trans hbel
  · intro i o hi hip
    have hlt := (Array.getElem?_eq_some_iff.1 hi).1
    exact (hk3 i (by omega)).trans (hfr.2 i o ((Below.heap_alloc w O i hlt).trans hi) hip)

theorem in_one {ok : Nat → Prop} {W : World} {t : T} {v : Value} (n : ByteArray) (hok : ok W.heap.size) (h : TyIn ok W t v) : TyIn ok (W.alloc (.cells #[.int .i64 t.kind, .string t.name, v] 26)) (.con n [t]) (.slice (some ⟨W.heap.size, 0, none⟩) 1 1) := by
  refine .row (.con n [t]) W.heap.size 1 #[.int .i64 t.kind, .string t.name, v] (0, 0) (fun _ => v) hok (alloc_new W _) (Nat.le_refl _) (fun i hi => ?_) (fun i hi => ?_)
  · obtain rfl : i = 0 := by simp [T.kids] at hi; exact hi
    exact ⟨rfl, rfl, rfl⟩
  · obtain rfl : i = 0 := by simp [T.kids] at hi; exact hi
    exact h.keep fun k _ _ _ hh => (Below.heap_alloc W _ k (Array.getElem?_eq_some_iff.1 hh).1).trans hh
theorem in_pair {ok : Nat → Prop} {W : World} {t t' c : T} {v v' : Value} {g : Nat} (hg : g = W.heap.size) (hc : c.kids = [t, t']) (hok : ok W.heap.size) (h : TyIn ok W t v) (h' : TyIn ok W t' v') : TyIn ok (W.alloc (.cells #[.int .i64 t.kind, .string t.name, v, .int .i64 t'.kind, .string t'.name, v'] 26)) c (.slice (some ⟨g, 0, none⟩) 2 2) := by
  subst hg
  have hl : c.kids.length = 2 := by rw [hc]; rfl
  have hkeep : ∀ (o : Obj) {t : T} {v : Value}, TyIn ok W t v → TyIn ok (W.alloc o) t v := fun o t v h => h.keep fun k _ _ _ hh => (Below.heap_alloc W _ k (Array.getElem?_eq_some_iff.1 hh).1).trans hh
  rw [show (Value.slice (some ⟨W.heap.size, 0, none⟩) 2 2) = .slice (some ⟨W.heap.size, 0, none⟩) c.kids.length 2 by rw [hl]]
  refine .row c W.heap.size 2 #[.int .i64 t.kind, .string t.name, v, .int .i64 t'.kind, .string t'.name, v'] (0, 0) (fun i => if i = 0 then v else v') hok (alloc_new W _) (by rw [hl]; exact Nat.le_refl _) (fun i hi => ?_) (fun i hi => ?_)
  · have hi2 : i < 2 := by omega
    have e : c.kids[i] = [t, t'][i] := by simp [hc]
    rw [e]
    match i, hi2 with
    | 0, _ => exact ⟨rfl, rfl, rfl⟩
    | 1, _ => exact ⟨rfl, rfl, rfl⟩
    | n + 2, h => omega
  · have hi2 : i < 2 := by omega
    have e : c.kids[i] = [t, t'][i] := by simp [hc]
    rw [e]
    match i, hi2 with
    | 0, _ => exact hkeep _ h
    | 1, _ => exact hkeep _ h'
    | n + 2, h => omega
set_option maxHeartbeats 1000000 in
theorem con_in {ok : Nat → Prop} (n : ByteArray) (a : Option Addr) (l : List T) (k c : Nat) (w : World) (h : TyIn ok w (.con n l) (.slice a k c)) :
    Calls Try.prog 12 #[.string n, .slice a k c] w fun e w' => (∃ u, e = .returned (tyV (.con n l) u) ∧ TyIn ok w' (.con n l) u) ∧ Below w.heap.size w w' := by
  have H := Lib.hid h; clear h
  go_enter Try.func12, Try.ntmps12
  go_wp2
  refine bodyPost_ret (v := tyV (.con n l) (.slice a k c)) (by simp [results, Try.results12, go_sem, tyV, T.kind, T.name]) rfl ⟨⟨_, rfl, H.out.keep fun k _ _ _ hh => (Below.heap_alloc w _ k (Array.getElem?_eq_some_iff.1 hh).1).trans hh⟩, (Below.refl _ w).alloc (Nat.le_refl _) _⟩
set_option maxHeartbeats 1000000 in
theorem fun2_in {ok : Nat → Prop} (x y : T) (a b : Option Addr) (c d : Nat) (w : World) (hok : ∀ k, w.heap.size ≤ k → ok k) (hx : TyIn ok w x (.slice a x.kids.length c)) (hy : TyIn ok w y (.slice b y.kids.length d)) :
    Calls Try.prog 13 #[tyV x (.slice a x.kids.length c), tyV y (.slice b y.kids.length d)] w fun e w' => (∃ u, e = .returned (tyV (.fn x y) u) ∧ TyIn ok w' (.fn x y) u) ∧ Below w.heap.size w w' := by
  have HX := Lib.hid hx; have HY := Lib.hid hy; have HK := Lib.hid hok
  clear hx hy hok
  simp only [tyV]
  go_enter Try.func13, Try.ntmps13
  go_wp2
  have k3 : ∀ (o1 o2 o3 : Obj) {t : T} {v : Value}, TyIn ok w t v → TyIn ok (((w.alloc o1).alloc o2).alloc o3) t v := fun o1 o2 o3 t v h => h.keep (fun k cs fz _ hh => (((keepT_alloc w o1).trans (keepT_alloc _ o2)).trans (keepT_alloc _ o3)) k cs fz hh)
  refine bodyPost_ret (v := .agg #[.int .i64 3, .string ⟨#[]⟩, .slice (some ⟨w.heap.size + 1 + 1 + 1, 0, none⟩) 2 2]) (by simp [results, Try.results13, go_sem]) rfl ⟨⟨_, rfl, ?_⟩, ?_⟩
  · exact in_pair (by simp) rfl (HK.out _ (by simp; omega)) (k3 _ _ _ HX.out) (k3 _ _ _ HY.out)
  · exact ((((Below.refl _ w).alloc (Nat.le_refl _) _).alloc (by simp) _).alloc (by simp; omega) _).alloc (by simp; omega) _

set_option maxHeartbeats 4000000 in
theorem make_n0 (B p : Nat) (a : Option Addr) (n c k : Nat) (w : World) (h : SeqAt B p a n c k w) (hk : k < 1152921504606846976) (hn : n < 1152921504606846976) :
    Calls Try.prog 5 #[.pointer (some ⟨p, 0, none⟩), .int .i64 0] w (MadeN B p a n c k 2 14 w) := by
  have hp := h.lt
  have HN := Lib.hid (fun o => next_any B p a n c k 9 (w.alloc o) (h.below ((Below.refl _ w).alloc (Nat.le_refl _) o)) (by decide) (by decide) hk hn)
  have HNe := Lib.hid (show w.heap.size ≠ p by omega)
  clear h
  go_enter Try.func5, Try.ntmps5
  go_wp2_with (go_at_call 10; refine (HN.out _).mono ?_)
  rintro e W1 ⟨⟨r, hr, rfl⟩, h1, h2⟩
  have hz := h2.2 _ _ (alloc_new w _) HNe.out
  obtain ⟨c0, c1, c2⟩ := three_cells hz
  have f0 := Lib.frozen_of_heap hz 0
  have f1 := Lib.frozen_of_heap hz 1
  have f2 := Lib.frozen_of_heap hz 2
  have HZ := Lib.hid hz; have H1 := Lib.hid h1; have H2 := Lib.hid h2
  have hzl := (Array.getElem?_eq_some_iff.1 hz).1
  clear hz h1 h2
  obtain ⟨z, hz⟩ : ∃ z : Int, (r : Int) = z := ⟨_, rfl⟩
  rw [hz]
  have h9 : z = 0 ∨ z = 1 ∨ z = 2 ∨ z = 3 ∨ z = 4 ∨ z = 5 ∨ z = 6 ∨ z = 7 ∨ z = 8 := by omega
  clear hz hr
  rcases h9 with rfl | rfl | rfl | rfl | rfl | rfl | rfl | rfl | rfl
  · go_wp2_with (go_at_call 11; refine (var_any _ _).mono ?_)
    rintro e W2 ⟨⟨u, rfl, hu⟩, hb⟩
    have HBT := Lib.hid (((Below.refl _ W1).alloc (Nat.le_refl _) _).trans (hb.mono (by simp)))
    clear hb
    obtain ⟨a2, n2, rfl⟩ := hu.shape
    have hz2 : W2.heap[w.heap.size]? = some (.cells #[.int .i64 0, .string ⟨#[]⟩, .slice none 0 0] 26 (0, 0)) := (HBT.out.block _ hzl).trans HZ.out
    obtain ⟨d0, d1, d2⟩ := three_cells hz2
    have g0 := Lib.frozen_of_heap hz2 0
    have g1 := Lib.frozen_of_heap hz2 1
    have g2 := Lib.frozen_of_heap hz2 2
    have HZ2 := Lib.hid hz2; have HU := Lib.hid hu
    clear hz2 hu c0 c1 c2 f0 f1 f2
    simp only [tyV, T.kind, T.name, List.length_nil]
    go_wp2
    exact bodyPost_ret (v := .agg #[.int .i64 1, .string ⟨#[97]⟩, .slice a2 0 n2]) (by have hc := set3_cells HZ2.out (.int .i64 1) (.string ⟨#[97]⟩) (.slice a2 0 n2); simp [results, Try.results5, go_sem, hc.1, hc.2.1, hc.2.2]) rfl (made_fn (t := .var ⟨#[97]⟩) (H1.out.below HBT.out) (by omega) (H2.out.trans (MkFr.of_below HBT.out (Nat.le_trans H1.out.1.1 (Nat.le_of_lt H1.out.lt)))) hp HZ2.out (.leaf _ _ _ rfl) (good_var (by decide) (by decide) (by decide)))
  · go_wp2_with (go_at_call 11; refine (var_any _ _).mono ?_)
    rintro e W2 ⟨⟨u, rfl, hu⟩, hb⟩
    have HBT := Lib.hid (((Below.refl _ W1).alloc (Nat.le_refl _) _).trans (hb.mono (by simp)))
    clear hb
    obtain ⟨a2, n2, rfl⟩ := hu.shape
    have hz2 : W2.heap[w.heap.size]? = some (.cells #[.int .i64 0, .string ⟨#[]⟩, .slice none 0 0] 26 (0, 0)) := (HBT.out.block _ hzl).trans HZ.out
    obtain ⟨d0, d1, d2⟩ := three_cells hz2
    have g0 := Lib.frozen_of_heap hz2 0
    have g1 := Lib.frozen_of_heap hz2 1
    have g2 := Lib.frozen_of_heap hz2 2
    have HZ2 := Lib.hid hz2; have HU := Lib.hid hu
    clear hz2 hu c0 c1 c2 f0 f1 f2
    simp only [tyV, T.kind, T.name, List.length_nil]
    go_wp2
    exact bodyPost_ret (v := .agg #[.int .i64 1, .string ⟨#[98]⟩, .slice a2 0 n2]) (by have hc := set3_cells HZ2.out (.int .i64 1) (.string ⟨#[98]⟩) (.slice a2 0 n2); simp [results, Try.results5, go_sem, hc.1, hc.2.1, hc.2.2]) rfl (made_fn (t := .var ⟨#[98]⟩) (H1.out.below HBT.out) (by omega) (H2.out.trans (MkFr.of_below HBT.out (Nat.le_trans H1.out.1.1 (Nat.le_of_lt H1.out.lt)))) hp HZ2.out (.leaf _ _ _ rfl) (good_var (by decide) (by decide) (by decide)))
  · go_wp2_with (go_at_call 11; refine (var_any _ _).mono ?_)
    rintro e W2 ⟨⟨u, rfl, hu⟩, hb⟩
    have HBT := Lib.hid (((Below.refl _ W1).alloc (Nat.le_refl _) _).trans (hb.mono (by simp)))
    clear hb
    obtain ⟨a2, n2, rfl⟩ := hu.shape
    have hz2 : W2.heap[w.heap.size]? = some (.cells #[.int .i64 0, .string ⟨#[]⟩, .slice none 0 0] 26 (0, 0)) := (HBT.out.block _ hzl).trans HZ.out
    obtain ⟨d0, d1, d2⟩ := three_cells hz2
    have g0 := Lib.frozen_of_heap hz2 0
    have g1 := Lib.frozen_of_heap hz2 1
    have g2 := Lib.frozen_of_heap hz2 2
    have HZ2 := Lib.hid hz2; have HU := Lib.hid hu
    clear hz2 hu c0 c1 c2 f0 f1 f2
    simp only [tyV, T.kind, T.name, List.length_nil]
    go_wp2
    exact bodyPost_ret (v := .agg #[.int .i64 1, .string ⟨#[99]⟩, .slice a2 0 n2]) (by have hc := set3_cells HZ2.out (.int .i64 1) (.string ⟨#[99]⟩) (.slice a2 0 n2); simp [results, Try.results5, go_sem, hc.1, hc.2.1, hc.2.2]) rfl (made_fn (t := .var ⟨#[99]⟩) (H1.out.below HBT.out) (by omega) (H2.out.trans (MkFr.of_below HBT.out (Nat.le_trans H1.out.1.1 (Nat.le_of_lt H1.out.lt)))) hp HZ2.out (.leaf _ _ _ rfl) (good_var (by decide) (by decide) (by decide)))
  · go_wp2_with (go_at_call 12; refine (con_any _ none [] 0 0 _ (TysAt.nil _ _ _)).mono ?_)
    rintro e W2 ⟨⟨u, rfl, hu⟩, hb⟩
    have HBT := Lib.hid hb
    clear hb
    obtain ⟨a2, n2, rfl⟩ := hu.shape
    have hz2 : W2.heap[w.heap.size]? = some (.cells #[.int .i64 0, .string ⟨#[]⟩, .slice none 0 0] 26 (0, 0)) := (HBT.out.block _ hzl).trans HZ.out
    obtain ⟨d0, d1, d2⟩ := three_cells hz2
    have g0 := Lib.frozen_of_heap hz2 0
    have g1 := Lib.frozen_of_heap hz2 1
    have g2 := Lib.frozen_of_heap hz2 2
    have HZ2 := Lib.hid hz2; have HU := Lib.hid hu
    clear hz2 hu c0 c1 c2 f0 f1 f2
    simp only [tyV, T.kind, T.name, List.length_nil]
    go_wp2
    exact bodyPost_ret (v := .agg #[.int .i64 2, .string ⟨#[73, 110, 116]⟩, .slice a2 0 n2]) (by have hc := set3_cells HZ2.out (.int .i64 2) (.string ⟨#[73, 110, 116]⟩) (.slice a2 0 n2); simp [results, Try.results5, go_sem, hc.1, hc.2.1, hc.2.2]) rfl (made_fn (t := .con ⟨#[73, 110, 116]⟩ []) (H1.out.below HBT.out) (by omega) (H2.out.trans (MkFr.of_below HBT.out (Nat.le_trans H1.out.1.1 (Nat.le_of_lt H1.out.lt)))) hp HZ2.out (.leaf _ _ _ rfl) (good_con0 (by decide) (by decide) (by decide)))
  · go_wp2_with (go_at_call 12; refine (con_any _ none [] 0 0 _ (TysAt.nil _ _ _)).mono ?_)
    rintro e W2 ⟨⟨u, rfl, hu⟩, hb⟩
    have HBT := Lib.hid hb
    clear hb
    obtain ⟨a2, n2, rfl⟩ := hu.shape
    have hz2 : W2.heap[w.heap.size]? = some (.cells #[.int .i64 0, .string ⟨#[]⟩, .slice none 0 0] 26 (0, 0)) := (HBT.out.block _ hzl).trans HZ.out
    obtain ⟨d0, d1, d2⟩ := three_cells hz2
    have g0 := Lib.frozen_of_heap hz2 0
    have g1 := Lib.frozen_of_heap hz2 1
    have g2 := Lib.frozen_of_heap hz2 2
    have HZ2 := Lib.hid hz2; have HU := Lib.hid hu
    clear hz2 hu c0 c1 c2 f0 f1 f2
    simp only [tyV, T.kind, T.name, List.length_nil]
    go_wp2
    exact bodyPost_ret (v := .agg #[.int .i64 2, .string ⟨#[66, 111, 111, 108]⟩, .slice a2 0 n2]) (by have hc := set3_cells HZ2.out (.int .i64 2) (.string ⟨#[66, 111, 111, 108]⟩) (.slice a2 0 n2); simp [results, Try.results5, go_sem, hc.1, hc.2.1, hc.2.2]) rfl (made_fn (t := .con ⟨#[66, 111, 111, 108]⟩ []) (H1.out.below HBT.out) (by omega) (H2.out.trans (MkFr.of_below HBT.out (Nat.le_trans H1.out.1.1 (Nat.le_of_lt H1.out.lt)))) hp HZ2.out (.leaf _ _ _ rfl) (good_con0 (by decide) (by decide) (by decide)))
  · go_wp2_with (go_at_call 11; refine (var_any _ _).mono ?_)
    rintro e W2 ⟨⟨u, rfl, hu⟩, hb⟩
    have HBT := Lib.hid (((Below.refl _ W1).alloc (Nat.le_refl _) _).trans (hb.mono (by simp)))
    clear hb
    obtain ⟨a2, n2, rfl⟩ := hu.shape
    have hz2 : W2.heap[w.heap.size]? = some (.cells #[.int .i64 0, .string ⟨#[]⟩, .slice none 0 0] 26 (0, 0)) := (HBT.out.block _ hzl).trans HZ.out
    obtain ⟨d0, d1, d2⟩ := three_cells hz2
    have g0 := Lib.frozen_of_heap hz2 0
    have g1 := Lib.frozen_of_heap hz2 1
    have g2 := Lib.frozen_of_heap hz2 2
    have HZ2 := Lib.hid hz2; have HU := Lib.hid hu
    clear hz2 hu c0 c1 c2 f0 f1 f2
    simp only [tyV, T.kind, T.name, List.length_nil]
    go_wp2
    exact bodyPost_ret (v := .agg #[.int .i64 1, .string ⟨#[97]⟩, .slice a2 0 n2]) (by have hc := set3_cells HZ2.out (.int .i64 1) (.string ⟨#[97]⟩) (.slice a2 0 n2); simp [results, Try.results5, go_sem, hc.1, hc.2.1, hc.2.2]) rfl (made_fn (t := .var ⟨#[97]⟩) (H1.out.below HBT.out) (by omega) (H2.out.trans (MkFr.of_below HBT.out (Nat.le_trans H1.out.1.1 (Nat.le_of_lt H1.out.lt)))) hp HZ2.out (.leaf _ _ _ rfl) (good_var (by decide) (by decide) (by decide)))
  · go_wp2_with (go_at_call 11; refine (var_any _ _).mono ?_)
    rintro e W2 ⟨⟨u, rfl, hu⟩, hb⟩
    have HBT := Lib.hid (((Below.refl _ W1).alloc (Nat.le_refl _) _).trans (hb.mono (by simp)))
    clear hb
    obtain ⟨a2, n2, rfl⟩ := hu.shape
    have hz2 : W2.heap[w.heap.size]? = some (.cells #[.int .i64 0, .string ⟨#[]⟩, .slice none 0 0] 26 (0, 0)) := (HBT.out.block _ hzl).trans HZ.out
    obtain ⟨d0, d1, d2⟩ := three_cells hz2
    have g0 := Lib.frozen_of_heap hz2 0
    have g1 := Lib.frozen_of_heap hz2 1
    have g2 := Lib.frozen_of_heap hz2 2
    have HZ2 := Lib.hid hz2; have HU := Lib.hid hu
    clear hz2 hu c0 c1 c2 f0 f1 f2
    simp only [tyV, T.kind, T.name, List.length_nil]
    go_wp2
    exact bodyPost_ret (v := .agg #[.int .i64 1, .string ⟨#[98]⟩, .slice a2 0 n2]) (by have hc := set3_cells HZ2.out (.int .i64 1) (.string ⟨#[98]⟩) (.slice a2 0 n2); simp [results, Try.results5, go_sem, hc.1, hc.2.1, hc.2.2]) rfl (made_fn (t := .var ⟨#[98]⟩) (H1.out.below HBT.out) (by omega) (H2.out.trans (MkFr.of_below HBT.out (Nat.le_trans H1.out.1.1 (Nat.le_of_lt H1.out.lt)))) hp HZ2.out (.leaf _ _ _ rfl) (good_var (by decide) (by decide) (by decide)))
  · go_wp2_with (go_at_call 11; refine (var_any _ _).mono ?_)
    rintro e W2 ⟨⟨u, rfl, hu⟩, hb⟩
    have HBT := Lib.hid (((Below.refl _ W1).alloc (Nat.le_refl _) _).trans (hb.mono (by simp)))
    clear hb
    obtain ⟨a2, n2, rfl⟩ := hu.shape
    have hz2 : W2.heap[w.heap.size]? = some (.cells #[.int .i64 0, .string ⟨#[]⟩, .slice none 0 0] 26 (0, 0)) := (HBT.out.block _ hzl).trans HZ.out
    obtain ⟨d0, d1, d2⟩ := three_cells hz2
    have g0 := Lib.frozen_of_heap hz2 0
    have g1 := Lib.frozen_of_heap hz2 1
    have g2 := Lib.frozen_of_heap hz2 2
    have HZ2 := Lib.hid hz2; have HU := Lib.hid hu
    clear hz2 hu c0 c1 c2 f0 f1 f2
    simp only [tyV, T.kind, T.name, List.length_nil]
    go_wp2
    exact bodyPost_ret (v := .agg #[.int .i64 1, .string ⟨#[99]⟩, .slice a2 0 n2]) (by have hc := set3_cells HZ2.out (.int .i64 1) (.string ⟨#[99]⟩) (.slice a2 0 n2); simp [results, Try.results5, go_sem, hc.1, hc.2.1, hc.2.2]) rfl (made_fn (t := .var ⟨#[99]⟩) (H1.out.below HBT.out) (by omega) (H2.out.trans (MkFr.of_below HBT.out (Nat.le_trans H1.out.1.1 (Nat.le_of_lt H1.out.lt)))) hp HZ2.out (.leaf _ _ _ rfl) (good_var (by decide) (by decide) (by decide)))
  · go_wp2_with (go_at_call 12; refine (con_any _ none [] 0 0 _ (TysAt.nil _ _ _)).mono ?_)
    rintro e W2 ⟨⟨u, rfl, hu⟩, hb⟩
    have HBT := Lib.hid hb
    clear hb
    obtain ⟨a2, n2, rfl⟩ := hu.shape
    have hz2 : W2.heap[w.heap.size]? = some (.cells #[.int .i64 0, .string ⟨#[]⟩, .slice none 0 0] 26 (0, 0)) := (HBT.out.block _ hzl).trans HZ.out
    obtain ⟨d0, d1, d2⟩ := three_cells hz2
    have g0 := Lib.frozen_of_heap hz2 0
    have g1 := Lib.frozen_of_heap hz2 1
    have g2 := Lib.frozen_of_heap hz2 2
    have HZ2 := Lib.hid hz2; have HU := Lib.hid hu
    clear hz2 hu c0 c1 c2 f0 f1 f2
    simp only [tyV, T.kind, T.name, List.length_nil]
    go_wp2
    exact bodyPost_ret (v := .agg #[.int .i64 2, .string ⟨#[73, 110, 116]⟩, .slice a2 0 n2]) (by have hc := set3_cells HZ2.out (.int .i64 2) (.string ⟨#[73, 110, 116]⟩) (.slice a2 0 n2); simp [results, Try.results5, go_sem, hc.1, hc.2.1, hc.2.2]) rfl (made_fn (t := .con ⟨#[73, 110, 116]⟩ []) (H1.out.below HBT.out) (by omega) (H2.out.trans (MkFr.of_below HBT.out (Nat.le_trans H1.out.1.1 (Nat.le_of_lt H1.out.lt)))) hp HZ2.out (.leaf _ _ _ rfl) (good_con0 (by decide) (by decide) (by decide)))

end Go.Proofs.Ytdcfemojkdoakaa
/- The types that are made of numbers: a level more. -/
namespace Go.Proofs.Ytdcfemojkdoakaa
open Go.RowKit
attribute [local go_sem] Oper.semAt_some
attribute [local go_sem ↓] Go.wp_at_zero Go.wp_at_succ

set_option maxHeartbeats 4000000 in
theorem make_stepN (d : Int) (hd1 : 1 ≤ d) (hd2 : d ≤ 100) (M D : Nat) (hM : 2 ≤ M) (hD : 14 ≤ D) (B p : Nat) (a : Option Addr) (n c k : Nat) (w : World) (h : SeqAt B p a n c k w) (hk : k + 2 * M < 1152921504606846976) (hn : n < 1152921504606846976)
    (IH : ∀ k w, SeqAt B p a n c k w → k + M < 1152921504606846976 → Calls Try.prog 5 #[.pointer (some ⟨p, 0, none⟩), .int .i64 (d - 1)] w (MadeN B p a n c k M D w)) :
    Calls Try.prog 5 #[.pointer (some ⟨p, 0, none⟩), .int .i64 d] w (MadeN B p a n c k (2 * M) (2 * D) w) := by
  have hp := h.lt
  have HN := Lib.hid (fun o => next_any B p a n c k 9 (w.alloc o) (h.below ((Below.refl _ w).alloc (Nat.le_refl _) o)) (by decide) (by decide) (by omega) hn)
  have HNe := Lib.hid (show w.heap.size ≠ p by omega)
  have hw : IntKind.i64.wrap (d - 1) = d - 1 := by rw [IntKind.wrap_i64]; omega
  have HI := Lib.hid IH
  have HI2 := Lib.hid IH
  rw [← hw] at HI2
  clear hw
  clear h IH
  go_enter Try.func5, Try.ntmps5
  go_wp2_with (go_at_call 10; refine (HN.out _).mono ?_)
  rintro e W1 ⟨⟨r, hr, rfl⟩, h1, h2⟩
  have hz := h2.2 _ _ (alloc_new w _) HNe.out
  obtain ⟨c0, c1, c2⟩ := three_cells hz
  have f0 := Lib.frozen_of_heap hz 0
  have f1 := Lib.frozen_of_heap hz 1
  have f2 := Lib.frozen_of_heap hz 2
  have HZ := Lib.hid hz; have H1 := Lib.hid h1; have H2 := Lib.hid h2
  have hzl := (Array.getElem?_eq_some_iff.1 hz).1
  clear hz h1 h2
  obtain ⟨z, hz⟩ : ∃ z : Int, (r : Int) = z := ⟨_, rfl⟩
  rw [hz]
  have h9 : z = 0 ∨ z = 1 ∨ z = 2 ∨ z = 3 ∨ z = 4 ∨ z = 5 ∨ z = 6 ∨ z = 7 ∨ z = 8 := by omega
  clear hz hr
  rcases h9 with rfl | rfl | rfl | rfl | rfl | rfl | rfl | rfl | rfl
  · go_wp2_with (go_at_call 11; refine (var_any _ _).mono ?_)
    rintro e W2 ⟨⟨u, rfl, hu⟩, hb⟩
    have HBT := Lib.hid (((Below.refl _ W1).alloc (Nat.le_refl _) _).trans (hb.mono (by simp)))
    clear hb
    obtain ⟨a2, n2, rfl⟩ := hu.shape
    have hz2 : W2.heap[w.heap.size]? = some (.cells #[.int .i64 0, .string ⟨#[]⟩, .slice none 0 0] 26 (0, 0)) := (HBT.out.block _ hzl).trans HZ.out
    obtain ⟨d0, d1, d2⟩ := three_cells hz2
    have g0 := Lib.frozen_of_heap hz2 0
    have g1 := Lib.frozen_of_heap hz2 1
    have g2 := Lib.frozen_of_heap hz2 2
    have HZ2 := Lib.hid hz2; have HU := Lib.hid hu
    clear hz2 hu c0 c1 c2 f0 f1 f2
    simp only [tyV, T.kind, T.name, List.length_nil]
    go_wp2
    exact bodyPost_ret (v := .agg #[.int .i64 1, .string ⟨#[97]⟩, .slice a2 0 n2]) (by have hc := set3_cells HZ2.out (.int .i64 1) (.string ⟨#[97]⟩) (.slice a2 0 n2); simp [results, Try.results5, go_sem, hc.1, hc.2.1, hc.2.2]) rfl (made_fn (t := .var ⟨#[97]⟩) (H1.out.below HBT.out) (by omega) (H2.out.trans (MkFr.of_below HBT.out (Nat.le_trans H1.out.1.1 (Nat.le_of_lt H1.out.lt)))) hp HZ2.out (.leaf _ _ _ rfl) (good_var (by decide) (by decide) (by omega)))
  · go_wp2_with (go_at_call 11; refine (var_any _ _).mono ?_)
    rintro e W2 ⟨⟨u, rfl, hu⟩, hb⟩
    have HBT := Lib.hid (((Below.refl _ W1).alloc (Nat.le_refl _) _).trans (hb.mono (by simp)))
    clear hb
    obtain ⟨a2, n2, rfl⟩ := hu.shape
    have hz2 : W2.heap[w.heap.size]? = some (.cells #[.int .i64 0, .string ⟨#[]⟩, .slice none 0 0] 26 (0, 0)) := (HBT.out.block _ hzl).trans HZ.out
    obtain ⟨d0, d1, d2⟩ := three_cells hz2
    have g0 := Lib.frozen_of_heap hz2 0
    have g1 := Lib.frozen_of_heap hz2 1
    have g2 := Lib.frozen_of_heap hz2 2
    have HZ2 := Lib.hid hz2; have HU := Lib.hid hu
    clear hz2 hu c0 c1 c2 f0 f1 f2
    simp only [tyV, T.kind, T.name, List.length_nil]
    go_wp2
    exact bodyPost_ret (v := .agg #[.int .i64 1, .string ⟨#[98]⟩, .slice a2 0 n2]) (by have hc := set3_cells HZ2.out (.int .i64 1) (.string ⟨#[98]⟩) (.slice a2 0 n2); simp [results, Try.results5, go_sem, hc.1, hc.2.1, hc.2.2]) rfl (made_fn (t := .var ⟨#[98]⟩) (H1.out.below HBT.out) (by omega) (H2.out.trans (MkFr.of_below HBT.out (Nat.le_trans H1.out.1.1 (Nat.le_of_lt H1.out.lt)))) hp HZ2.out (.leaf _ _ _ rfl) (good_var (by decide) (by decide) (by omega)))
  · go_wp2_with (go_at_call 11; refine (var_any _ _).mono ?_)
    rintro e W2 ⟨⟨u, rfl, hu⟩, hb⟩
    have HBT := Lib.hid (((Below.refl _ W1).alloc (Nat.le_refl _) _).trans (hb.mono (by simp)))
    clear hb
    obtain ⟨a2, n2, rfl⟩ := hu.shape
    have hz2 : W2.heap[w.heap.size]? = some (.cells #[.int .i64 0, .string ⟨#[]⟩, .slice none 0 0] 26 (0, 0)) := (HBT.out.block _ hzl).trans HZ.out
    obtain ⟨d0, d1, d2⟩ := three_cells hz2
    have g0 := Lib.frozen_of_heap hz2 0
    have g1 := Lib.frozen_of_heap hz2 1
    have g2 := Lib.frozen_of_heap hz2 2
    have HZ2 := Lib.hid hz2; have HU := Lib.hid hu
    clear hz2 hu c0 c1 c2 f0 f1 f2
    simp only [tyV, T.kind, T.name, List.length_nil]
    go_wp2
    exact bodyPost_ret (v := .agg #[.int .i64 1, .string ⟨#[99]⟩, .slice a2 0 n2]) (by have hc := set3_cells HZ2.out (.int .i64 1) (.string ⟨#[99]⟩) (.slice a2 0 n2); simp [results, Try.results5, go_sem, hc.1, hc.2.1, hc.2.2]) rfl (made_fn (t := .var ⟨#[99]⟩) (H1.out.below HBT.out) (by omega) (H2.out.trans (MkFr.of_below HBT.out (Nat.le_trans H1.out.1.1 (Nat.le_of_lt H1.out.lt)))) hp HZ2.out (.leaf _ _ _ rfl) (good_var (by decide) (by decide) (by omega)))
  · go_wp2_with (go_at_call 12; refine (con_any _ none [] 0 0 _ (TysAt.nil _ _ _)).mono ?_)
    rintro e W2 ⟨⟨u, rfl, hu⟩, hb⟩
    have HBT := Lib.hid hb
    clear hb
    obtain ⟨a2, n2, rfl⟩ := hu.shape
    have hz2 : W2.heap[w.heap.size]? = some (.cells #[.int .i64 0, .string ⟨#[]⟩, .slice none 0 0] 26 (0, 0)) := (HBT.out.block _ hzl).trans HZ.out
    obtain ⟨d0, d1, d2⟩ := three_cells hz2
    have g0 := Lib.frozen_of_heap hz2 0
    have g1 := Lib.frozen_of_heap hz2 1
    have g2 := Lib.frozen_of_heap hz2 2
    have HZ2 := Lib.hid hz2; have HU := Lib.hid hu
    clear hz2 hu c0 c1 c2 f0 f1 f2
    simp only [tyV, T.kind, T.name, List.length_nil]
    go_wp2
    exact bodyPost_ret (v := .agg #[.int .i64 2, .string ⟨#[73, 110, 116]⟩, .slice a2 0 n2]) (by have hc := set3_cells HZ2.out (.int .i64 2) (.string ⟨#[73, 110, 116]⟩) (.slice a2 0 n2); simp [results, Try.results5, go_sem, hc.1, hc.2.1, hc.2.2]) rfl (made_fn (t := .con ⟨#[73, 110, 116]⟩ []) (H1.out.below HBT.out) (by omega) (H2.out.trans (MkFr.of_below HBT.out (Nat.le_trans H1.out.1.1 (Nat.le_of_lt H1.out.lt)))) hp HZ2.out (.leaf _ _ _ rfl) (good_con0 (by decide) (by decide) (by omega)))
  · go_wp2_with (go_at_call 12; refine (con_any _ none [] 0 0 _ (TysAt.nil _ _ _)).mono ?_)
    rintro e W2 ⟨⟨u, rfl, hu⟩, hb⟩
    have HBT := Lib.hid hb
    clear hb
    obtain ⟨a2, n2, rfl⟩ := hu.shape
    have hz2 : W2.heap[w.heap.size]? = some (.cells #[.int .i64 0, .string ⟨#[]⟩, .slice none 0 0] 26 (0, 0)) := (HBT.out.block _ hzl).trans HZ.out
    obtain ⟨d0, d1, d2⟩ := three_cells hz2
    have g0 := Lib.frozen_of_heap hz2 0
    have g1 := Lib.frozen_of_heap hz2 1
    have g2 := Lib.frozen_of_heap hz2 2
    have HZ2 := Lib.hid hz2; have HU := Lib.hid hu
    clear hz2 hu c0 c1 c2 f0 f1 f2
    simp only [tyV, T.kind, T.name, List.length_nil]
    go_wp2
    exact bodyPost_ret (v := .agg #[.int .i64 2, .string ⟨#[66, 111, 111, 108]⟩, .slice a2 0 n2]) (by have hc := set3_cells HZ2.out (.int .i64 2) (.string ⟨#[66, 111, 111, 108]⟩) (.slice a2 0 n2); simp [results, Try.results5, go_sem, hc.1, hc.2.1, hc.2.2]) rfl (made_fn (t := .con ⟨#[66, 111, 111, 108]⟩ []) (H1.out.below HBT.out) (by omega) (H2.out.trans (MkFr.of_below HBT.out (Nat.le_trans H1.out.1.1 (Nat.le_of_lt H1.out.lt)))) hp HZ2.out (.leaf _ _ _ rfl) (good_con0 (by decide) (by decide) (by omega)))
  · go_wp2_with (go_at_call 5; refine (HI.out _ _ H1.out (by omega)).mono ?_)
    rintro e W2 ⟨⟨t, u, rfl, hg, hu⟩, ⟨k2, hk2, hs2⟩, hf2⟩
    obtain ⟨a2, n2, rfl⟩ := hu.shape
    have hz2 := hf2.2 _ _ HZ.out HNe.out
    have hzl2 := (Array.getElem?_eq_some_iff.1 hz2).1
    have HZ2 := Lib.hid hz2; have HU := Lib.hid hu; have HS2 := Lib.hid hs2; have HF2 := Lib.hid hf2; have HG := Lib.hid hg
    clear hz2 hu hs2 hf2 hg c0 c1 c2 f0 f1 f2
    simp only [tyV]
    go_wp2_with (go_at_call 12; refine (con_in (ok := fun k => w.heap.size < k) _ _ [t] 1 1 _ (in_one _ hzl2 (HU.out.mono fun k hk => Nat.lt_of_lt_of_le hzl hk))).mono ?_)
    rintro e W3 ⟨⟨u3, rfl, hu3⟩, hb⟩
    obtain ⟨a3, n3, rfl⟩ := hu3.shape
    have HBT := Lib.hid (((Below.refl _ W2).alloc (Nat.le_refl _) _).trans (hb.mono (by simp)))
    have hz3 : W3.heap[w.heap.size]? = some (.cells #[.int .i64 0, .string ⟨#[]⟩, .slice none 0 0] 26 (0, 0)) := (HBT.out.block _ hzl2).trans HZ2.out
    obtain ⟨d0, d1, d2⟩ := three_cells hz3
    have g0 := Lib.frozen_of_heap hz3 0
    have g1 := Lib.frozen_of_heap hz3 1
    have g2 := Lib.frozen_of_heap hz3 2
    have HZ3 := Lib.hid hz3; have HU3 := Lib.hid hu3
    clear hz3 hu3 hb
    simp only [tyV, show (T.con ⟨#[76, 105, 115, 116]⟩ [t]).kind = 2 from rfl, show (T.con ⟨#[76, 105, 115, 116]⟩ [t]).name = ⟨#[76, 105, 115, 116]⟩ from rfl, show (T.con ⟨#[76, 105, 115, 116]⟩ [t]).kids.length = 1 from rfl]
    go_wp2
    exact bodyPost_ret (v := .agg #[.int .i64 2, .string ⟨#[76, 105, 115, 116]⟩, .slice a3 1 n3]) (by have hc := set3_cells HZ3.out (.int .i64 2) (.string ⟨#[76, 105, 115, 116]⟩) (.slice a3 1 n3); simp [results, Try.results5, go_sem, hc.1, hc.2.1, hc.2.2]) rfl (made_fn (t := .con ⟨#[76, 105, 115, 116]⟩ [t]) (HS2.out.below HBT.out) (by omega) ((H2.out.trans HF2.out).trans (MkFr.of_below HBT.out (Nat.le_trans HS2.out.1.1 (Nat.le_of_lt HS2.out.lt)))) hp HZ3.out HU3.out (good_con1 (by decide) (by decide) HG.out (Nat.le_refl _) hD))
  · go_wp2_with (go_at_call 5; refine (HI.out _ _ H1.out (by omega)).mono ?_)
    rintro e W2 ⟨⟨t, u, rfl, hg, hu⟩, ⟨k2, hk2, hs2⟩, hf2⟩
    obtain ⟨a2, n2, rfl⟩ := hu.shape
    have hz2 := hf2.2 _ _ HZ.out HNe.out
    have hzl2 := (Array.getElem?_eq_some_iff.1 hz2).1
    have HZ2 := Lib.hid hz2; have HU := Lib.hid hu; have HS2 := Lib.hid hs2; have HF2 := Lib.hid hf2; have HG := Lib.hid hg
    clear hz2 hu hs2 hf2 hg c0 c1 c2 f0 f1 f2
    simp only [tyV]
    go_wp2_with fail
    have hbx := alloc_new W2 (.cells #[.int .i64 t.kind, .string t.name, .slice a2 t.kids.length n2] 26)
    have HBX := Lib.hid hbx
    have hne2 : W2.heap.size ≠ p := by have := HS2.out.lt; omega
    have HNe2 := Lib.hid hne2
    clear hbx hne2
    go_region_with (first
      | (go_at_call 5; refine (HI2.out k2 _ ?hs ?hk).mono ?_; (case hs => exact SeqAt.drew (HS2.out.below ((Below.refl _ W2).alloc (Nat.le_refl _) _))); (case hk => omega); rintro e W3 ⟨⟨t3, u3, rfl, hg3, hu3⟩, ⟨k3, hk3, hs3⟩, hf3'⟩; have hf3 := MkFr.of_drew hf3'; clear hf3'; obtain ⟨a3, n3, rfl⟩ := hu3.shape; have hbx3 := hf3.2 _ _ HBX.out HNe2.out; obtain ⟨x0, x1, x2⟩ := three_cells hbx3; have hz3 := hf3.2 _ _ ((Below.heap_alloc W2 _ _ hzl2).trans HZ2.out) HNe.out; have hzl3 := (Array.getElem?_eq_some_iff.1 hz3).1; have HZ3 := Lib.hid hz3; have HS3 := Lib.hid hs3; have HF3 := Lib.hid hf3; have HG3 := Lib.hid hg3; have HUt := Lib.hid ((HU.out.mono (ok' := fun k => w.heap.size < k) fun k hk => Nat.lt_of_lt_of_le hzl hk).keep (fun k cs fz _ hh => ((keepT_alloc W2 _).trans (KeepT.of_mk hf3 (HS2.out.below ((Below.refl _ W2).alloc (Nat.le_refl _) _)))) k cs fz hh)); have hu3' : TyIn (fun k => w.heap.size < k) W3 t3 (.slice a3 t3.kids.length n3) := hu3.mono (fun k hk => by have h9 : (W2.alloc (.cells #[.int .i64 t.kind, .string t.name, .slice a2 t.kids.length n2] 26)).heap.size ≤ k := hk; simp at h9; omega); have HU3 := Lib.hid hu3'; clear hz3 hs3 hf3 hu3 hu3' hg3 hbx3; simp only [tyV])
      | (go_at_call 12; refine (con_in (ok := fun k => w.heap.size < k) _ _ [t, t3] 2 2 _ (in_pair rfl rfl hzl3 HUt.out HU3.out)).mono ?_; rintro e W4 ⟨⟨u4, rfl, hu4⟩, hb4⟩; obtain ⟨a4, n4, rfl⟩ := hu4.shape; have HBT := Lib.hid (((Below.refl _ W3).alloc (Nat.le_refl _) _).trans (hb4.mono (by simp))); have hz4 : W4.heap[w.heap.size]? = some (.cells #[.int .i64 0, .string ⟨#[]⟩, .slice none 0 0] 26 (0, 0)) := (HBT.out.block _ hzl3).trans HZ3.out; obtain ⟨d0, d1, d2⟩ := three_cells hz4; have g0 := Lib.frozen_of_heap hz4 0; have g1 := Lib.frozen_of_heap hz4 1; have g2 := Lib.frozen_of_heap hz4 2; have HZ4 := Lib.hid hz4; have HU4 := Lib.hid hu4; clear hz4 hu4 hb4; simp only [tyV, show (T.con ⟨#[80, 97, 105, 114]⟩ [t, t3]).kind = 2 from rfl, show (T.con ⟨#[80, 97, 105, 114]⟩ [t, t3]).name = ⟨#[80, 97, 105, 114]⟩ from rfl, show (T.con ⟨#[80, 97, 105, 114]⟩ [t, t3]).kids.length = 2 from rfl]))
    all_goals go_wp2
    all_goals exact bodyPost_ret (v := .agg #[.int .i64 2, .string ⟨#[80, 97, 105, 114]⟩, .slice a4 2 n4]) (by have hc := set3_cells HZ4.out (.int .i64 2) (.string ⟨#[80, 97, 105, 114]⟩) (.slice a4 2 n4); simp [results, Try.results5, go_sem, hc.1, hc.2.1, hc.2.2]) rfl (made_fn (t := T.con ⟨#[80, 97, 105, 114]⟩ [t, t3]) (HS3.out.below HBT.out) (by omega) (((H2.out.trans HF2.out).trans ((MkFr.of_below ((Below.refl _ W2).alloc (Nat.le_refl _) _) (Nat.le_trans HS2.out.1.1 (Nat.le_of_lt HS2.out.lt))).trans HF3.out)).trans (MkFr.of_below HBT.out (Nat.le_trans HS3.out.1.1 (Nat.le_of_lt HS3.out.lt)))) hp HZ4.out HU4.out (good_con2 (by decide) (by decide) HG.out HG3.out (Nat.le_refl _)))
  · go_wp2_with (go_at_call 5; refine (HI.out _ _ H1.out (by omega)).mono ?_)
    rintro e W2 ⟨⟨t, u, rfl, hg, hu⟩, ⟨k2, hk2, hs2⟩, hf2⟩
    obtain ⟨a2, n2, rfl⟩ := hu.shape
    have hz2 := hf2.2 _ _ HZ.out HNe.out
    have hzl2 := (Array.getElem?_eq_some_iff.1 hz2).1
    have HZ2 := Lib.hid hz2; have HU := Lib.hid hu; have HS2 := Lib.hid hs2; have HF2 := Lib.hid hf2; have HG := Lib.hid hg
    clear hz2 hu hs2 hf2 hg c0 c1 c2 f0 f1 f2
    simp only [tyV]
    go_wp2_with fail
    have hbx := alloc_new W2 (.cells #[.int .i64 t.kind, .string t.name, .slice a2 t.kids.length n2] 26)
    have HBX := Lib.hid hbx
    have hne2 : W2.heap.size ≠ p := by have := HS2.out.lt; omega
    have HNe2 := Lib.hid hne2
    clear hbx hne2
    go_region_with (first
      | (go_at_call 5; refine (HI2.out k2 _ ?hs ?hk).mono ?_; (case hs => exact SeqAt.drew (HS2.out.below ((Below.refl _ W2).alloc (Nat.le_refl _) _))); (case hk => omega); rintro e W3 ⟨⟨t3, u3, rfl, hg3, hu3⟩, ⟨k3, hk3, hs3⟩, hf3'⟩; have hf3 := MkFr.of_drew hf3'; clear hf3'; obtain ⟨a3, n3, rfl⟩ := hu3.shape; have hbx3 := hf3.2 _ _ HBX.out HNe2.out; obtain ⟨x0, x1, x2⟩ := three_cells hbx3; have hz3 := hf3.2 _ _ ((Below.heap_alloc W2 _ _ hzl2).trans HZ2.out) HNe.out; have hzl3 := (Array.getElem?_eq_some_iff.1 hz3).1; have HZ3 := Lib.hid hz3; have HS3 := Lib.hid hs3; have HF3 := Lib.hid hf3; have HG3 := Lib.hid hg3; have HUt := Lib.hid ((HU.out.mono (ok' := fun k => w.heap.size < k) fun k hk => Nat.lt_of_lt_of_le hzl hk).keep (fun k cs fz _ hh => ((keepT_alloc W2 _).trans (KeepT.of_mk hf3 (HS2.out.below ((Below.refl _ W2).alloc (Nat.le_refl _) _)))) k cs fz hh)); have hu3' : TyIn (fun k => w.heap.size < k) W3 t3 (.slice a3 t3.kids.length n3) := hu3.mono (fun k hk => by have h9 : (W2.alloc (.cells #[.int .i64 t.kind, .string t.name, .slice a2 t.kids.length n2] 26)).heap.size ≤ k := hk; simp at h9; omega); have HU3 := Lib.hid hu3'; clear hz3 hs3 hf3 hu3 hu3' hg3 hbx3; simp only [tyV])
      | (go_at_call 13; refine (fun2_in t t3 _ _ _ _ _ (fun k hk => Nat.lt_of_lt_of_le hzl3 hk) HUt.out HU3.out).mono ?_; rintro e W4 ⟨⟨u4, rfl, hu4⟩, hb4⟩; obtain ⟨a4, n4, rfl⟩ := hu4.shape; have HBT := Lib.hid hb4; have hz4 : W4.heap[w.heap.size]? = some (.cells #[.int .i64 0, .string ⟨#[]⟩, .slice none 0 0] 26 (0, 0)) := (HBT.out.block _ hzl3).trans HZ3.out; obtain ⟨d0, d1, d2⟩ := three_cells hz4; have g0 := Lib.frozen_of_heap hz4 0; have g1 := Lib.frozen_of_heap hz4 1; have g2 := Lib.frozen_of_heap hz4 2; have HZ4 := Lib.hid hz4; have HU4 := Lib.hid hu4; clear hz4 hu4 hb4; simp only [tyV, show (T.fn t t3).kind = 3 from rfl, show (T.fn t t3).name = ⟨#[]⟩ from rfl, show (T.fn t t3).kids.length = 2 from rfl]))
    all_goals go_wp2
    all_goals exact bodyPost_ret (v := .agg #[.int .i64 3, .string ⟨#[]⟩, .slice a4 2 n4]) (by have hc := set3_cells HZ4.out (.int .i64 3) (.string ⟨#[]⟩) (.slice a4 2 n4); simp [results, Try.results5, go_sem, hc.1, hc.2.1, hc.2.2]) rfl (made_fn (t := T.fn t t3) (HS3.out.below HBT.out) (by omega) (((H2.out.trans HF2.out).trans ((MkFr.of_below ((Below.refl _ W2).alloc (Nat.le_refl _) _) (Nat.le_trans HS2.out.1.1 (Nat.le_of_lt HS2.out.lt))).trans HF3.out)).trans (MkFr.of_below HBT.out (Nat.le_trans HS3.out.1.1 (Nat.le_of_lt HS3.out.lt)))) hp HZ4.out HU4.out (good_fn HG.out HG3.out (Nat.le_refl _)))
  · go_wp2_with (go_at_call 5; refine (HI.out _ _ H1.out (by omega)).mono ?_)
    rintro e W2 ⟨⟨t, u, rfl, hg, hu⟩, ⟨k2, hk2, hs2⟩, hf2⟩
    obtain ⟨a2, n2, rfl⟩ := hu.shape
    have hz2 := hf2.2 _ _ HZ.out HNe.out
    have hzl2 := (Array.getElem?_eq_some_iff.1 hz2).1
    have HZ2 := Lib.hid hz2; have HU := Lib.hid hu; have HS2 := Lib.hid hs2; have HF2 := Lib.hid hf2; have HG := Lib.hid hg
    clear hz2 hu hs2 hf2 hg c0 c1 c2 f0 f1 f2
    simp only [tyV]
    go_wp2_with fail
    have hbx := alloc_new W2 (.cells #[.int .i64 t.kind, .string t.name, .slice a2 t.kids.length n2] 26)
    have HBX := Lib.hid hbx
    have hne2 : W2.heap.size ≠ p := by have := HS2.out.lt; omega
    have HNe2 := Lib.hid hne2
    clear hbx hne2
    go_region_with (first
      | (go_at_call 5; refine (HI2.out k2 _ ?hs ?hk).mono ?_; (case hs => exact SeqAt.drew (HS2.out.below ((Below.refl _ W2).alloc (Nat.le_refl _) _))); (case hk => omega); rintro e W3 ⟨⟨t3, u3, rfl, hg3, hu3⟩, ⟨k3, hk3, hs3⟩, hf3'⟩; have hf3 := MkFr.of_drew hf3'; clear hf3'; obtain ⟨a3, n3, rfl⟩ := hu3.shape; have hbx3 := hf3.2 _ _ HBX.out HNe2.out; obtain ⟨x0, x1, x2⟩ := three_cells hbx3; have hz3 := hf3.2 _ _ ((Below.heap_alloc W2 _ _ hzl2).trans HZ2.out) HNe.out; have hzl3 := (Array.getElem?_eq_some_iff.1 hz3).1; have HZ3 := Lib.hid hz3; have HS3 := Lib.hid hs3; have HF3 := Lib.hid hf3; have HG3 := Lib.hid hg3; have HUt := Lib.hid ((HU.out.mono (ok' := fun k => w.heap.size < k) fun k hk => Nat.lt_of_lt_of_le hzl hk).keep (fun k cs fz _ hh => ((keepT_alloc W2 _).trans (KeepT.of_mk hf3 (HS2.out.below ((Below.refl _ W2).alloc (Nat.le_refl _) _)))) k cs fz hh)); have hu3' : TyIn (fun k => w.heap.size < k) W3 t3 (.slice a3 t3.kids.length n3) := hu3.mono (fun k hk => by have h9 : (W2.alloc (.cells #[.int .i64 t.kind, .string t.name, .slice a2 t.kids.length n2] 26)).heap.size ≤ k := hk; simp at h9; omega); have HU3 := Lib.hid hu3'; clear hz3 hs3 hf3 hu3 hu3' hg3 hbx3; simp only [tyV])
      | (go_at_call 13; refine (fun2_in t t3 _ _ _ _ _ (fun k hk => Nat.lt_of_lt_of_le hzl3 hk) HUt.out HU3.out).mono ?_; rintro e W4 ⟨⟨u4, rfl, hu4⟩, hb4⟩; obtain ⟨a4, n4, rfl⟩ := hu4.shape; have HBT := Lib.hid hb4; have hz4 : W4.heap[w.heap.size]? = some (.cells #[.int .i64 0, .string ⟨#[]⟩, .slice none 0 0] 26 (0, 0)) := (HBT.out.block _ hzl3).trans HZ3.out; obtain ⟨d0, d1, d2⟩ := three_cells hz4; have g0 := Lib.frozen_of_heap hz4 0; have g1 := Lib.frozen_of_heap hz4 1; have g2 := Lib.frozen_of_heap hz4 2; have HZ4 := Lib.hid hz4; have HU4 := Lib.hid hu4; clear hz4 hu4 hb4; simp only [tyV, show (T.fn t t3).kind = 3 from rfl, show (T.fn t t3).name = ⟨#[]⟩ from rfl, show (T.fn t t3).kids.length = 2 from rfl]))
    all_goals go_wp2
    all_goals exact bodyPost_ret (v := .agg #[.int .i64 3, .string ⟨#[]⟩, .slice a4 2 n4]) (by have hc := set3_cells HZ4.out (.int .i64 3) (.string ⟨#[]⟩) (.slice a4 2 n4); simp [results, Try.results5, go_sem, hc.1, hc.2.1, hc.2.2]) rfl (made_fn (t := T.fn t t3) (HS3.out.below HBT.out) (by omega) (((H2.out.trans HF2.out).trans ((MkFr.of_below ((Below.refl _ W2).alloc (Nat.le_refl _) _) (Nat.le_trans HS2.out.1.1 (Nat.le_of_lt HS2.out.lt))).trans HF3.out)).trans (MkFr.of_below HBT.out (Nat.le_trans HS3.out.1.1 (Nat.le_of_lt HS3.out.lt)))) hp HZ4.out HU4.out (good_fn HG.out HG3.out (Nat.le_refl _)))
end Go.Proofs.Ytdcfemojkdoakaa
/- Types of depth three, of depth four, made of numbers. -/
namespace Go.Proofs.Ytdcfemojkdoakaa
open Go.RowKit

theorem make_n1 (B p : Nat) (a : Option Addr) (n c k : Nat) (w : World) (h : SeqAt B p a n c k w) (hk : k + 4 < 1152921504606846976) (hn : n < 1152921504606846976) :
    Calls Try.prog 5 #[.pointer (some ⟨p, 0, none⟩), .int .i64 1] w (MadeN B p a n c k 4 28 w) :=
  make_stepN 1 (by decide) (by decide) 2 14 (by decide) (by decide) B p a n c k w h hk hn (fun k w h hk => make_n0 B p a n c k w h (by omega) hn)
theorem make_n2 (B p : Nat) (a : Option Addr) (n c k : Nat) (w : World) (h : SeqAt B p a n c k w) (hk : k + 8 < 1152921504606846976) (hn : n < 1152921504606846976) :
    Calls Try.prog 5 #[.pointer (some ⟨p, 0, none⟩), .int .i64 2] w (MadeN B p a n c k 8 56 w) :=
  make_stepN 2 (by decide) (by decide) 4 28 (by decide) (by decide) B p a n c k w h hk hn (fun k w h hk => make_n1 B p a n c k w h hk hn)
theorem make_n3 (B p : Nat) (a : Option Addr) (n c k : Nat) (w : World) (h : SeqAt B p a n c k w) (hk : k + 16 < 1152921504606846976) (hn : n < 1152921504606846976) :
    Calls Try.prog 5 #[.pointer (some ⟨p, 0, none⟩), .int .i64 3] w (MadeN B p a n c k 16 112 w) :=
  make_stepN 3 (by decide) (by decide) 8 56 (by decide) (by decide) B p a n c k w h hk hn (fun k w h hk => make_n2 B p a n c k w h hk hn)
theorem make_n4 (B p : Nat) (a : Option Addr) (n c k : Nat) (w : World) (h : SeqAt B p a n c k w) (hk : k + 32 < 1152921504606846976) (hn : n < 1152921504606846976) :
    Calls Try.prog 5 #[.pointer (some ⟨p, 0, none⟩), .int .i64 4] w (MadeN B p a n c k 32 224 w) :=
  make_stepN 4 (by decide) (by decide) 16 112 (by decide) (by decide) B p a n c k w h hk hn (fun k w h hk => make_n3 B p a n c k w h hk hn)
end Go.Proofs.Ytdcfemojkdoakaa
/- The laws of matching: their example; what their last statements keep. -/
namespace Go.Proofs.Ytdcfemojkdoakaa
open Go.RowKit Go.Maps Go.Sort Go.Lib
attribute [local go_sem] Oper.semAt_some

theorem run_guardF {P : Program} {o : Oper} {ops : Array Oper} {a : Act} {w : World} {K : Act → World → Prop} {Q : Exit → Act → World → Prop} {C : Prop} (g k : Nat) (v : Value) (hg : o.guard = some (g, false))
    (hk : (ops[g]?).bind (·.dst) = some k) (hv : a.tmps[k]? = some v) (e : v = .bool false) (h : Oper.wp P o a w K Q) :
    if Region.wanted o (yielded ops a.tmps) = true then Oper.wp P o a w K Q else C := by
  rw [if_pos (by simp [Region.wanted, hg, yielded, hk, hv, e])]; exact h
theorem run_skip {P : Program} {o : Oper} {ops : Array Oper} {a : Act} {w : World} {K : Act → World → Prop} {Q : Exit → Act → World → Prop} {C : Prop} (g k : Nat) (v : Value) (hg : o.guard = some (g, true))
    (hk : (ops[g]?).bind (·.dst) = some k) (hv : a.tmps[k]? = some v) (e : v = .bool false) (h : C) :
    if Region.wanted o (yielded ops a.tmps) = true then Oper.wp P o a w K Q else C := by
  rw [if_neg (by simp [Region.wanted, hg, yielded, hk, hv, e])]; exact h
theorem run_skipF {P : Program} {o : Oper} {ops : Array Oper} {a : Act} {w : World} {K : Act → World → Prop} {Q : Exit → Act → World → Prop} {C : Prop} (g k : Nat) (v : Value) (hg : o.guard = some (g, false))
    (hk : (ops[g]?).bind (·.dst) = some k) (hv : a.tmps[k]? = some v) (e : v = .bool true) (h : C) :
    if Region.wanted o (yielded ops a.tmps) = true then Oper.wp P o a w K Q else C := by
  rw [if_neg (by simp [Region.wanted, hg, yielded, hk, hv, e])]; exact h
theorem mt_yes : (mt (tsize tA) [] tA tInt).isSome = true := by
  rw [show tsize tA = 0 + 1 from rfl, mt, if_pos (show tA.kind = 1 from rfl)]; rfl
theorem mt_no : (mt (tsize tInt) [] tInt tA).isSome = false := by
  rw [show tsize tInt = 0 + 1 from rfl, mt, if_neg (by decide), if_neg (fun h => by have := h.1; exact absurd this (by decide))]; rfl
def vA : List ByteArray := [⟨#[97]⟩]
theorem tA_in : TIn vA tA := fun x hx => by simpa [vs, tA, vA] using hx
theorem tInt_in : TIn vA tInt := fun x hx => by simp [vs, vss, tInt] at hx
theorem vA_short : ∀ x ∈ vA, x.size ≤ 1000 := by decide
set_option maxRecDepth 100000 in
set_option maxHeartbeats 2000000 in
theorem mfirst_any (w : World) : Calls Try.prog 4 #[] w fun e w' => e = .returned (.bool true) ∧ Below w.heap.size w w' := by
  have H1 := Lib.hid (fun W : World => pmatch_any (a := tA) (b := tInt) (V := vA) (w := W) (pa := none) (pb := none) (ca := 0) (cb := 0) (by decide) (by decide) tA_in (by decide) vA_short (TysAt.nil _ _ _) (TysAt.nil _ _ _))
  have H2 := Lib.hid (fun W : World => pmatch_any (a := tInt) (b := tA) (V := vA) (w := W) (pa := none) (pb := none) (ca := 0) (cb := 0) (by decide) (by decide) tInt_in (by decide) vA_short (TysAt.nil _ _ _) (TysAt.nil _ _ _))
  unfold PMat at H1 H2
  rw [mt_yes] at H1
  rw [mt_no] at H2
  simp only [show tA.kind = 1 from rfl, show tA.name = ⟨#[97]⟩ from rfl, show tA.kids = [] from rfl, show tInt.kind = 2 from rfl, show tInt.name = ⟨#[73, 110, 116]⟩ from rfl, show tInt.kids = [] from rfl, List.length_nil] at H1 H2
  go_enter Try.func4, Try.ntmps4
  go_wp2_with (first
    | (go_at_call 8; refine (H1.out _).mono ?_; rintro e w1 ⟨⟨sv, l, rfl, hs, _⟩, hb1⟩; obtain ⟨sa, sc, rfl⟩ := hs.shape; have HB1 := Lib.hid hb1; clear hs hb1 H1)
    | (go_at_call 8; refine (H2.out _).mono ?_; rintro e w2 ⟨⟨sv2, l2, rfl, hs, _⟩, hb2⟩; obtain ⟨sa2, sc2, rfl⟩ := hs.shape; have HB2 := Lib.hid hb2; clear hs hb2))
  go_ret
  exact ⟨rfl, ((HB1.out.alloc HB1.out.size _).trans (HB2.out.mono (by simp; have := HB1.out.size; omega))).alloc (by have := HB1.out.size; have := HB2.out.size; simp at this; omega) _⟩
/-- Both types, and what was found by each. -/
def UQ (w : World) (b6 b7 b8 : Nat) (t u : T) (pa pb : Option Addr) (ca cb : Nat) (sa : Option Addr) (sc : Nat) (l q : List PR) (mv : Value) (V : World) : Prop :=
  (BoxT b6 t pa ca V ∧ BoxT b7 u pb cb V) ∧ BoxS b8 (.slice sa l.length sc) l V ∧ (GivenG 49 mv q V ∧ Typ q V) ∧ Below w.heap.size w V
theorem UQ.below {w : World} {b6 b7 b8 : Nat} {t u : T} {pa pb : Option Addr} {ca cb : Nat} {sa : Option Addr} {sc : Nat} {l q : List PR} {mv : Value} {X Y : World} (h : UQ w b6 b7 b8 t u pa pb ca cb sa sc l q mv X) (hb : Below X.heap.size X Y) : UQ w b6 b7 b8 t u pa pb ca cb sa sc l q mv Y :=
  ⟨⟨h.1.1.below hb, h.1.2.below hb⟩, h.2.1.below hb, ⟨h.2.2.1.1.below hb, h.2.2.1.2.keep (KeepT.of_below hb)⟩, h.2.2.2.trans (hb.mono h.2.2.2.size)⟩
theorem UQ.cells {w : World} {b6 b7 b8 : Nat} {t u : T} {pa pb : Option Addr} {ca cb : Nat} {sa : Option Addr} {sc : Nat} {l q : List PR} {mv : Value} {X : World} (h : UQ w b6 b7 b8 t u pa pb ca cb sa sc l q mv X) :
    (X.cell? ⟨b6, 0, none⟩ = some (.int .i64 t.kind) ∧ X.cell? ⟨b6, 1, none⟩ = some (.string t.name) ∧ X.cell? ⟨b6, 2, none⟩ = some (.slice pa t.kids.length ca)) ∧
    (X.cell? ⟨b7, 0, none⟩ = some (.int .i64 u.kind) ∧ X.cell? ⟨b7, 1, none⟩ = some (.string u.name) ∧ X.cell? ⟨b7, 2, none⟩ = some (.slice pb u.kids.length cb)) ∧ X.cell? ⟨b8, 0, none⟩ = some (.slice sa l.length sc) :=
  ⟨h.1.1.cells, h.1.2.cells, h.2.1.cell⟩
/-- Apply of what was found. -/
theorem papp_ret {l : List PR} {t u : T} {sv : Value} {a : Option Addr} {c : Nat} {w : World} (hs : SubAt sv l w) (hl : l.length < 20) (hz : ∀ x ∈ l, tsize x.t ≤ 1000000000) (ht : tsize t ≤ 1000000000) (e : app l t = u) (hT : TysAt w (.slice a t.kids.length c) t.kids) :
    Calls Try.prog 31 #[.agg #[sv], .agg #[.int .i64 t.kind, .string t.name, .slice a t.kids.length c]] w fun E Y => (∃ za zc, E = .returned (.agg #[.int .i64 u.kind, .string u.name, .slice za u.kids.length zc]) ∧ TysAt Y (.slice za u.kids.length zc) u.kids) ∧ Below w.heap.size w Y := by
  subst e
  refine (apply_any (d := l) (t := t) (by omega) hz ht hs hT).mono ?_
  rintro E Y ⟨⟨za, zc, rfl, hin⟩, hb⟩
  exact ⟨⟨za, zc, rfl, hin.tys⟩, hb⟩
theorem rapp_ret7 {q : List PR} {t u : T} {mv : Value} {a : Option Addr} {c : Nat} {w : World} (hg : GivenG 49 mv q w) (ht : Typ q w) (hq : q.length < 1000000) (hz : tsize t ≤ 1000000000) (e : app q t = u) (hT : TysAt w (.slice a t.kids.length c) t.kids) :
    Calls Try.prog 6 #[mv, .agg #[.int .i64 t.kind, .string t.name, .slice a t.kids.length c]] w fun E Y => (∃ za zc, E = .returned (.agg #[.int .i64 u.kind, .string u.name, .slice za u.kids.length zc]) ∧ TysAt Y (.slice za u.kids.length zc) u.kids) ∧ Below w.heap.size w Y := by
  subst e
  exact rapp_big hq hg ht hT hz
end Go.Proofs.Ytdcfemojkdoakaa
/- MatchCases: cases of cases, as plain data; what its statements keep. -/
namespace Go.Proofs.Ytdcfemojkdoakaa
open Go.RowKit Go.Maps Go.Sort Go.Lib
attribute [local go_sem] Oper.semAt_some

/-- u is a case of t, not much greater, of the variables a, b, c. -/
def CaseOf (t u : T) : Prop := (∃ θ : Sg, u = sub θ t) ∧ TIn V3 u ∧ tsize u ≤ tsize t * 28
theorem case_app {q : List PR} {t : T} (ht : TIn V3 t) (_ : q.map PR.n = [(⟨#[97]⟩ : ByteArray), ⟨#[98]⟩, ⟨#[99]⟩]) (hq : ∀ x ∈ q, T.Good x.t ∧ Fits x.t ∧ (T.text x.t).length + 10 ≤ 56) : CaseOf t (app q t) := by
  refine ⟨⟨fun n => ty n q, app_sub q t⟩, fun x hx => ?_, size_le q 28 (by decide) (fun x hx => ?_) t⟩
  · rw [app_sub] at hx
    obtain ⟨y, hy, hx⟩ := (vs_sub t).1 hx
    have hx' : x ∈ vs (ty y q) := hx
    unfold ty at hx'
    cases h : lk y q with
    | none =>
      rw [h] at hx'
      have e : x = y := by simpa [vs] using hx'
      rw [e]; exact ht y hy
    | some z =>
      rw [h] at hx'
      exact good_in z.t (hq z (lk_name h).1).1 x hx'
  · have h1 := tsize2_text x.t (hq x hx).1
    have h2 := (hq x hx).2.2
    omega
theorem CaseOf.trans {t u v : T} (h : CaseOf t u) (k : CaseOf u v) : ∃ θ : Sg, v = sub θ t := by
  obtain ⟨θ, rfl⟩ := h.1
  obtain ⟨τ, rfl⟩ := k.1
  exact ⟨_, sub_sub τ θ t⟩
theorem mt_case {t u : T} (h : ∃ θ : Sg, u = sub θ t) : (mt (tsize t) [] t u).isSome = true := by
  obtain ⟨θ, rfl⟩ := h
  obtain ⟨s, hs, _⟩ := mt_hit θ (tsize t) [] t (Nat.le_refl _) (fun p hp => nomatch hp)
  rw [hs]; rfl
theorem mt_self (t : T) : (mt (tsize t) [] t t).isSome = true := mt_case ⟨T.var, (sub_var t).symm⟩
/-- A value that says types for a, b, c. -/
def ByR (v : Value) (V : World) : Prop := ∃ q : List PR, q.map PR.n = [(⟨#[97]⟩ : ByteArray), ⟨#[98]⟩, ⟨#[99]⟩] ∧ (∀ x ∈ q, T.Good x.t ∧ Fits x.t ∧ (T.text x.t).length + 10 ≤ 56) ∧ GivenG 49 v q V ∧ Typ q V
theorem ByR.below {v : Value} {V Y : World} (h : ByR v V) (hb : Below V.heap.size V Y) : ByR v Y := by
  obtain ⟨q, h1, h2, h3, h4⟩ := h
  exact ⟨q, h1, h2, h3.below hb, h4.keep (KeepT.of_below hb)⟩
theorem IntsAt.up {B C : Nat} {a : Option Addr} {n : Nat} {w : World} (h : IntsAt B a n w) (hB : B ≤ C) : IntsAt C a n w := by
  rcases h with h | ⟨g, o, e, hg, hi⟩
  · exact .inl h
  · exact .inr ⟨g, o, e, by omega, hi⟩
theorem by_ret {w0 w : World} {a : Option Addr} {n c : Nat} (h : IntsAt w0.heap.size a n w0) (hb : Below w0.heap.size w0 w) (hn : n < 1152921504606846976) :
    Calls Try.prog 7 #[.slice a n c] w fun e Y => (∃ zm, e = .returned zm ∧ ByR zm Y) ∧ Below w.heap.size w Y := by
  refine (by_any a n c w ((h.keep hb).up hb.size) hn).mono ?_
  rintro e Y ⟨⟨q, v, rfl, h1, h2, h3, h4⟩, hb⟩
  exact ⟨⟨v, rfl, q, h1, h2, h3, h4⟩, hb⟩
theorem case_ret {t : T} {v : Value} {a : Option Addr} {c : Nat} {w : World} (h : ByR v w) (ht : TIn V3 t) (hz : tsize t ≤ 1000000000) (hT : TysAt w (.slice a t.kids.length c) t.kids) :
    Calls Try.prog 6 #[v, .agg #[.int .i64 t.kind, .string t.name, .slice a t.kids.length c]] w fun E Y => (∃ zt za zc, E = .returned (.agg #[.int .i64 zt.kind, .string zt.name, .slice za zt.kids.length zc]) ∧ (CaseOf t zt ∧ TysAt Y (.slice za zt.kids.length zc) zt.kids)) ∧ Below w.heap.size w Y := by
  obtain ⟨q, h1, h2, h3, h4⟩ := h
  have hl : q.length < 1000000 := by
    have : q.length = 3 := by rw [← List.length_map (f := PR.n), h1]; rfl
    omega
  refine (rapp_ret7 (u := app q t) h3 h4 hl hz rfl hT).mono ?_
  rintro E Y ⟨⟨za, zc, rfl, hin⟩, hb⟩
  exact ⟨⟨app q t, za, zc, rfl, case_app ht h1 h2, hin⟩, hb⟩
/-- What the law's statements keep: one type, two, three. -/
def M1 (w : World) (b8 : Nat) (t : T) (pa : Option Addr) (ca : Nat) (V : World) : Prop := BoxT b8 t pa ca V ∧ Below w.heap.size w V
def M2 (w : World) (b8 b9 : Nat) (t u : T) (pa pb : Option Addr) (ca cb : Nat) (V : World) : Prop := (BoxT b8 t pa ca V ∧ BoxT b9 u pb cb V) ∧ Below w.heap.size w V
def M3 (w : World) (b8 b9 b10 : Nat) (t u v : T) (pa pb pc : Option Addr) (ca cb cc : Nat) (V : World) : Prop := (BoxT b8 t pa ca V ∧ BoxT b9 u pb cb V ∧ BoxT b10 v pc cc V) ∧ Below w.heap.size w V
section
variable {w X Y : World} {b8 b9 b10 : Nat} {t u v : T} {pa pb pc : Option Addr} {ca cb cc : Nat}
theorem M1.below (h : M1 w b8 t pa ca X) (hb : Below X.heap.size X Y) : M1 w b8 t pa ca Y := ⟨h.1.below hb, h.2.trans (hb.mono h.2.size)⟩
theorem M2.below (h : M2 w b8 b9 t u pa pb ca cb X) (hb : Below X.heap.size X Y) : M2 w b8 b9 t u pa pb ca cb Y := ⟨⟨h.1.1.below hb, h.1.2.below hb⟩, h.2.trans (hb.mono h.2.size)⟩
theorem M3.below (h : M3 w b8 b9 b10 t u v pa pb pc ca cb cc X) (hb : Below X.heap.size X Y) : M3 w b8 b9 b10 t u v pa pb pc ca cb cc Y := ⟨⟨h.1.1.below hb, h.1.2.1.below hb, h.1.2.2.below hb⟩, h.2.trans (hb.mono h.2.size)⟩
end
end Go.Proofs.Ytdcfemojkdoakaa
/- MatchCases: its last statement, a region of 6 operations that draws its order, by an invariant. (Made by a program.) -/
namespace Go.Proofs.Ytdcfemojkdoakaa
open Go.RowKit Go.Maps Go.Sort Go.Lib
attribute [local go_sem] Oper.semAt_some

noncomputable def mcaOps : Array Oper := regionIn 7 (Try.f3.body.getD .skip)
def mcaFr (b : Nat → Value) (d : List Deferred) (x : Nat → Value) : Act := { tmps := #[b 0, b 1, b 2, b 3, b 4, b 5, b 6, b 7, b 8, x 4, b 10, b 11, b 12, b 13, b 14, b 15, b 16, b 17, b 18, b 19, b 20, b 21, b 22, b 23, b 24, b 25, b 26, b 27, b 28, b 29, b 30, b 31, b 32, b 33, b 34, b 35, b 36, b 37, b 38, b 39, x 0, x 1, x 2, x 3, b 44, b 45, b 46, b 47, b 48, b 49, b 50, b 51, b 52, b 53, b 54, b 55, b 56, b 57, b 58, b 59, b 60, b 61, b 62, b 63, b 64, b 65, b 66, b 67, b 68, b 69, b 70, b 71, b 72, b 73, b 74, b 75, b 76, b 77, b 78, b 79, b 80, b 81, b 82, b 83, b 84, b 85, b 86, b 87, b 88, b 89, b 90, b 91, b 92, b 93, b 94, b 95, b 96, b 97, b 98, b 99, b 100], defers := d }

def mcaVals (w : World) (t : T) (pa : Option Addr) (ca : Nat) (mv : Value) (i : Nat) (v : Value) (V : World) : Prop :=
  match i with
  | 0 => v = mv
  | 1 => ∃ zm, v = zm ∧ ByR zm V
  | 2 => v = .agg #[.int .i64 (t).kind, .string (t).name, .slice pa (t).kids.length ca]
  | 3 => ∃ (zt : T) (za : Option Addr) (zc : Nat), v = .agg #[.int .i64 zt.kind, .string zt.name, .slice za zt.kids.length zc] ∧ (CaseOf t zt ∧ TysAt V (.slice za zt.kids.length zc) zt.kids)
  | 4 => ∃ zk, v = .pointer (some ⟨zk, 0, none⟩) ∧ (w.heap.size ≤ zk ∧ V.heap[zk]? = some zeroT)
  | _ => True

theorem mcaVals_keep {w : World} {t : T} {pa : Option Addr} {ca : Nat} {mv : Value} (i : Nat) (v : Value) (V Y : World) (h : mcaVals w t pa ca mv i v V) (hb : Below V.heap.size V Y) : mcaVals w t pa ca mv i v Y := by
  unfold mcaVals at *
  split at h <;> first
    | exact h
    | (obtain ⟨zm, e, h⟩ := h; exact ⟨zm, e, h.below hb⟩)
    | (obtain ⟨zt, za, zc, e, h⟩ := h; exact ⟨zt, za, zc, e, ⟨h.1, h.2.keep (KeepT.of_below hb)⟩⟩)
    | (obtain ⟨zk, e, h⟩ := h; exact ⟨zk, e, ⟨h.1, (hb.block _ (Array.getElem?_eq_some_iff.1 h.2).1).trans h.2⟩⟩)

theorem mca_size : mcaOps.size = 6 := by kernel_rfl
theorem mca_cov : covered mcaOps 5 = true := by kernel_rfl
set_option linter.unusedSimpArgs false in
set_option maxRecDepth 100000 in
set_option maxHeartbeats 8000000 in
theorem mca_region {w : World} {b8 : Nat} {t : T} {pa : Option Addr} {ca : Nat} {mv : Value} {b : Nat → Value} {d : List Deferred}
    (h1 : b 1 = mv) (h8 : b 8 = .pointer (some ⟨b8, 0, none⟩))
    (HC1 : ∀ V, M1 w b8 t pa ca V → Calls Try.prog 7 #[mv] V fun e Y => (∃ zm, e = .returned (zm) ∧ ByR zm Y) ∧ Below V.heap.size V Y)
    (HC3 : ∀ V, M1 w b8 t pa ca V → ∀ zm1, ByR zm1 V → Calls Try.prog 6 #[zm1, .agg #[.int .i64 (t).kind, .string (t).name, .slice pa (t).kids.length ca]] V fun e Y => (∃ (zt : T) (za : Option Addr) (zc : Nat), e = .returned (.agg #[.int .i64 zt.kind, .string zt.name, .slice za zt.kids.length zc]) ∧ (CaseOf t zt ∧ TysAt Y (.slice za zt.kids.length zc) zt.kids)) ∧ Below V.heap.size V Y)
    {Q : Exit → Act → World → Prop} {ops : Array Oper} (hops : ops = mcaOps) (x0 : Nat → Value) (X : World) (hS : M1 w b8 t pa ca X.drew)
    (hfin : ∀ x V bk zt ba bc, x 4 = .pointer (some ⟨bk, 0, none⟩) → M1 w b8 t pa ca V → BoxT bk zt ba bc V → CaseOf t zt → Q .normal (mcaFr b d x) V) : (Code.region 7 ops true).wp Try.prog Q (mcaFr b d x0) X := by
  have HC := Lib.hid (And.intro HC1 HC3)
  clear HC1 HC3
  have hszo : ops.size = 5 + 1 := by rw [hops]; exact mca_size
  have hcovo : covered ops 5 = true := by rw [hops]; exact mca_cov
  refine region_last (mcaFr b d) (fun V => M1 w b8 t pa ca V) (fun V Y => Below V.heap.size V Y) (mcaVals w t pa ca mv) x0 5 (by kernel_rfl) rfl hS hszo hcovo (fun V Y h hb => h.below hb) (fun i v V Y _ h hb => mcaVals_keep i v V Y h hb) ?_
  have HFIN := Lib.hid hfin
  clear hfin hS hszo hcovo
  obtain ⟨gl, hgl⟩ : ∃ qq, LastAt Try.prog (mcaFr b d) (fun V => M1 w b8 t pa ca V) (mcaVals w t pa ca mv) ops Q 5 = qq := ⟨_, rfl⟩
  rw [hgl]
  obtain ⟨f, hf⟩ : ∃ qq, StepAt Try.prog (mcaFr b d) (fun V => M1 w b8 t pa ca V) (fun V Y => Below V.heap.size V Y) (mcaVals w t pa ca mv) ops Q = qq := ⟨_, rfl⟩
  rw [hf, hops]
  simp only [mcaOps, Try.f3, regionIn, Option.getD_some, Nat.reduceBEq, Bool.false_eq_true, if_false, if_true, beq_self_eq_true, Array.append_empty, Array.empty_append, List.append_eq, List.cons_append, List.nil_append, AllBut, Nat.reduceAdd, Nat.zero_add]
  -- 0: slot 40 := Op.move t1
  refine And.intro ?_ ?_
  · clear HFIN hgl
    rw [← hf]; clear hf
    refine ⟨by decide +kernel, fun x v => by kernel_rfl, fun x V hV hdep K hK => ?_⟩
    clear hdep
    refine run_bare (by kernel_rfl) ?_
    unfold mcaFr
    go_simp
    refine kfit (hK _ _ (Below.refl _ V) rfl) ?_
    first | (simp only [mcaFr, Act.put, List.setIfInBounds_toArray, List.set_cons_zero, List.set_cons_succ, h1, h8]; done) | (simp only [mcaFr, Act.put, List.setIfInBounds_toArray, List.set_cons_zero, List.set_cons_succ, h1, h8]; rfl)
  -- 1: slot 41 := Op.call { value (Operand.func 7), args := #[t40], argTypes :
  refine And.intro ?_ ?_
  · clear HFIN hgl
    rw [← hf]; clear hf
    refine ⟨by decide +kernel, fun x v => by kernel_rfl, fun x V hV hdep K hK => ?_⟩
    have e0 : x 0 = mv := depOf hdep 0 (by decide +kernel)
    clear hdep
    refine run_bare (by kernel_rfl) ?_
    unfold mcaFr
    obtain ⟨HC1, HC3⟩ := HC.out
    clear HC3
    have H := HC1 V hV
    replace H := Lib.hid H; clear HC1
    go_simp
    go_at_call 7
    refine H.out.mono ?_
    rintro e Y ⟨⟨zm, rfl, hq⟩, hb⟩; refine kfit (hK _ _ hb ⟨zm, rfl, hq⟩) ?_
    first | (simp only [mcaFr, Act.put, List.setIfInBounds_toArray, List.set_cons_zero, List.set_cons_succ, h1, h8, e0]; done) | (simp only [mcaFr, Act.put, List.setIfInBounds_toArray, List.set_cons_zero, List.set_cons_succ, h1, h8, e0]; rfl)
  -- 2: slot 42 := Op.load 26 t8
  refine And.intro ?_ ?_
  · clear HFIN hgl
    rw [← hf]; clear hf
    refine ⟨by decide +kernel, fun x v => by kernel_rfl, fun x V hV hdep K hK => ?_⟩
    clear hdep
    refine run_bare (by kernel_rfl) ?_
    unfold mcaFr
    obtain ⟨y0, y1, y2⟩ := hV.1.cells
    go_simp
    refine kfit (hK _ _ (Below.refl _ V) rfl) ?_
    first | (simp only [mcaFr, Act.put, List.setIfInBounds_toArray, List.set_cons_zero, List.set_cons_succ, h1, h8]; done) | (simp only [mcaFr, Act.put, List.setIfInBounds_toArray, List.set_cons_zero, List.set_cons_succ, h1, h8]; rfl)
  -- 3: slot 43 := Op.call { value (Operand.func 6), args := #[t41, t42], argTy
  refine And.intro ?_ ?_
  · clear HFIN hgl
    rw [← hf]; clear hf
    refine ⟨by decide +kernel, fun x v => by kernel_rfl, fun x V hV hdep K hK => ?_⟩
    obtain ⟨zm1, e1, d1⟩ : ∃ zm1, x 1 = zm1 ∧ ByR zm1 V := depOf hdep 1 (by decide +kernel)
    have e2 : x 2 = .agg #[.int .i64 (t).kind, .string (t).name, .slice pa (t).kids.length ca] := depOf hdep 2 (by decide +kernel)
    clear hdep
    refine run_bare (by kernel_rfl) ?_
    unfold mcaFr
    obtain ⟨HC1, HC3⟩ := HC.out
    clear HC1
    have H := HC3 V hV _ d1
    replace H := Lib.hid H; clear HC3
    go_simp
    go_at_call 6
    refine H.out.mono ?_
    rintro e Y ⟨⟨zt, za, zc, rfl, hq⟩, hb⟩; refine kfit (hK _ _ hb ⟨zt, za, zc, rfl, hq⟩) ?_
    first | (simp only [mcaFr, Act.put, List.setIfInBounds_toArray, List.set_cons_zero, List.set_cons_succ, h1, h8, e1, e2]; done) | (simp only [mcaFr, Act.put, List.setIfInBounds_toArray, List.set_cons_zero, List.set_cons_succ, h1, h8, e1, e2]; rfl)
  -- 4: slot 9 := Op.alloc 26
  refine And.intro ?_ ?_
  · clear HFIN hgl
    rw [← hf]; clear hf
    refine ⟨by decide +kernel, fun x v => by kernel_rfl, fun x V hV hdep K hK => ?_⟩
    clear hdep
    refine run_bare (by kernel_rfl) ?_
    unfold mcaFr
    go_simp
    refine kfit (hK _ _ (below_a _ _) ⟨_, rfl, ⟨hV.2.size, alloc_new _ _⟩⟩) ?_
    first | (simp only [mcaFr, Act.put, List.setIfInBounds_toArray, List.set_cons_zero, List.set_cons_succ, h1, h8]; done) | (simp only [mcaFr, Act.put, List.setIfInBounds_toArray, List.set_cons_zero, List.set_cons_succ, h1, h8]; rfl)
  -- 5: slot none := Op.store 26 t9 t43
  · clear HC
    rw [← hgl]; clear hgl
    refine ⟨by decide +kernel, fun x V hV hall K hK => ?_⟩
    obtain ⟨k, e4, hk, hz⟩ : ∃ zk, x 4 = .pointer (some ⟨zk, 0, none⟩) ∧ (w.heap.size ≤ zk ∧ V.heap[zk]? = some zeroT) := hall 4 (by decide)
    obtain ⟨zt, a, c, e3, hpr, hp⟩ : ∃ (zt : T) (za : Option Addr) (zc : Nat), x 3 = .agg #[.int .i64 zt.kind, .string zt.name, .slice za zt.kids.length zc] ∧ (CaseOf t zt ∧ TysAt V (.slice za zt.kids.length zc) zt.kids) := hall 3 (by decide)
    clear hall
    refine run_bare (by kernel_rfl) ?_
    unfold mcaFr
    obtain ⟨z0, z1, z2⟩ := three_cells hz
    have u0 := Lib.frozen_of_heap hz 0; have u1 := Lib.frozen_of_heap hz 1; have u2 := Lib.frozen_of_heap hz 2
    have H := Lib.hid (HFIN.out x _ k zt a c e4 (⟨hV.1.fill hz (fun _ hj => set3_others _ _ _ hj), below_set3 hV.2 hk _ _ _⟩) (fill_box hz hp) hpr)
    clear HFIN hV hp
    go_simp
    refine kfit (hK undef _ H.out) ?_
    first | (simp only [mcaFr, Act.put, h1, h8, e4, e3]; done) | (simp only [mcaFr, Act.put, h1, h8, e4, e3]; rfl)
theorem mca_here {w : World} {b8 : Nat} {t : T} {pa : Option Addr} {ca : Nat} {mv : Value}
    (HC1 : ∀ V, M1 w b8 t pa ca V → Calls Try.prog 7 #[mv] V fun e Y => (∃ zm, e = .returned (zm) ∧ ByR zm Y) ∧ Below V.heap.size V Y)
    (HC3 : ∀ V, M1 w b8 t pa ca V → ∀ zm1, ByR zm1 V → Calls Try.prog 6 #[zm1, .agg #[.int .i64 (t).kind, .string (t).name, .slice pa (t).kids.length ca]] V fun e Y => (∃ (zt : T) (za : Option Addr) (zc : Nat), e = .returned (.agg #[.int .i64 zt.kind, .string zt.name, .slice za zt.kids.length zc]) ∧ (CaseOf t zt ∧ TysAt Y (.slice za zt.kids.length zc) zt.kids)) ∧ Below V.heap.size V Y)
    {Q : Exit → Act → World → Prop} {ops : Array Oper} {a : Act} (X : World) (hops : ops = mcaOps)
    (h1 : a.tmps.getD 1 undef = mv) (h8 : a.tmps.getD 8 undef = .pointer (some ⟨b8, 0, none⟩))
    (ha : a = mcaFr (fun j => a.tmps.getD j undef) a.defers (fun i => a.tmps.getD (if i = 4 then 9 else 40 + i) undef)) (hS : M1 w b8 t pa ca X.drew)
    (hfin : ∀ x V bk zt ba bc, x 4 = .pointer (some ⟨bk, 0, none⟩) → M1 w b8 t pa ca V → BoxT bk zt ba bc V → CaseOf t zt → Q .normal (mcaFr (fun j => a.tmps.getD j undef) a.defers x) V) : (Code.region 7 ops true).wp Try.prog Q a X :=
  cast (congrArg (fun z => (Code.region 7 ops true).wp Try.prog Q z X) ha.symm) (mca_region (b := fun j => a.tmps.getD j undef) (d := a.defers) h1 h8 HC1 HC3 hops _ X hS hfin)
end Go.Proofs.Ytdcfemojkdoakaa
/- MatchCases: its last statement, a region of 6 operations that draws its order, by an invariant. (Made by a program.) -/
namespace Go.Proofs.Ytdcfemojkdoakaa
open Go.RowKit Go.Maps Go.Sort Go.Lib
attribute [local go_sem] Oper.semAt_some

noncomputable def mcbOps : Array Oper := regionIn 8 (Try.f3.body.getD .skip)
def mcbFr (b : Nat → Value) (d : List Deferred) (x : Nat → Value) : Act := { tmps := #[b 0, b 1, b 2, b 3, b 4, b 5, b 6, b 7, b 8, b 9, x 4, b 11, b 12, b 13, b 14, b 15, b 16, b 17, b 18, b 19, b 20, b 21, b 22, b 23, b 24, b 25, b 26, b 27, b 28, b 29, b 30, b 31, b 32, b 33, b 34, b 35, b 36, b 37, b 38, b 39, b 40, b 41, b 42, b 43, x 0, x 1, x 2, x 3, b 48, b 49, b 50, b 51, b 52, b 53, b 54, b 55, b 56, b 57, b 58, b 59, b 60, b 61, b 62, b 63, b 64, b 65, b 66, b 67, b 68, b 69, b 70, b 71, b 72, b 73, b 74, b 75, b 76, b 77, b 78, b 79, b 80, b 81, b 82, b 83, b 84, b 85, b 86, b 87, b 88, b 89, b 90, b 91, b 92, b 93, b 94, b 95, b 96, b 97, b 98, b 99, b 100], defers := d }

def mcbVals (w : World) (u : T) (pb : Option Addr) (cb : Nat) (mv : Value) (i : Nat) (v : Value) (V : World) : Prop :=
  match i with
  | 0 => v = mv
  | 1 => ∃ zm, v = zm ∧ ByR zm V
  | 2 => v = .agg #[.int .i64 (u).kind, .string (u).name, .slice pb (u).kids.length cb]
  | 3 => ∃ (zt : T) (za : Option Addr) (zc : Nat), v = .agg #[.int .i64 zt.kind, .string zt.name, .slice za zt.kids.length zc] ∧ (CaseOf u zt ∧ TysAt V (.slice za zt.kids.length zc) zt.kids)
  | 4 => ∃ zk, v = .pointer (some ⟨zk, 0, none⟩) ∧ (w.heap.size ≤ zk ∧ V.heap[zk]? = some zeroT)
  | _ => True

theorem mcbVals_keep {w : World} {u : T} {pb : Option Addr} {cb : Nat} {mv : Value} (i : Nat) (v : Value) (V Y : World) (h : mcbVals w u pb cb mv i v V) (hb : Below V.heap.size V Y) : mcbVals w u pb cb mv i v Y := by
  unfold mcbVals at *
  split at h <;> first
    | exact h
    | (obtain ⟨zm, e, h⟩ := h; exact ⟨zm, e, h.below hb⟩)
    | (obtain ⟨zt, za, zc, e, h⟩ := h; exact ⟨zt, za, zc, e, ⟨h.1, h.2.keep (KeepT.of_below hb)⟩⟩)
    | (obtain ⟨zk, e, h⟩ := h; exact ⟨zk, e, ⟨h.1, (hb.block _ (Array.getElem?_eq_some_iff.1 h.2).1).trans h.2⟩⟩)

theorem mcb_size : mcbOps.size = 6 := by kernel_rfl
theorem mcb_cov : covered mcbOps 5 = true := by kernel_rfl
set_option linter.unusedSimpArgs false in
set_option maxRecDepth 100000 in
set_option maxHeartbeats 8000000 in
theorem mcb_region {w : World} {b8 b9 : Nat} {t u : T} {pa pb : Option Addr} {ca cb : Nat} {mv : Value} {b : Nat → Value} {d : List Deferred}
    (h2 : b 2 = mv) (h9 : b 9 = .pointer (some ⟨b9, 0, none⟩))
    (HC1 : ∀ V, M2 w b8 b9 t u pa pb ca cb V → Calls Try.prog 7 #[mv] V fun e Y => (∃ zm, e = .returned (zm) ∧ ByR zm Y) ∧ Below V.heap.size V Y)
    (HC3 : ∀ V, M2 w b8 b9 t u pa pb ca cb V → ∀ zm1, ByR zm1 V → Calls Try.prog 6 #[zm1, .agg #[.int .i64 (u).kind, .string (u).name, .slice pb (u).kids.length cb]] V fun e Y => (∃ (zt : T) (za : Option Addr) (zc : Nat), e = .returned (.agg #[.int .i64 zt.kind, .string zt.name, .slice za zt.kids.length zc]) ∧ (CaseOf u zt ∧ TysAt Y (.slice za zt.kids.length zc) zt.kids)) ∧ Below V.heap.size V Y)
    {Q : Exit → Act → World → Prop} {ops : Array Oper} (hops : ops = mcbOps) (x0 : Nat → Value) (X : World) (hS : M2 w b8 b9 t u pa pb ca cb X.drew)
    (hfin : ∀ x V bk zt ba bc, x 4 = .pointer (some ⟨bk, 0, none⟩) → M2 w b8 b9 t u pa pb ca cb V → BoxT bk zt ba bc V → CaseOf u zt → Q .normal (mcbFr b d x) V) : (Code.region 8 ops true).wp Try.prog Q (mcbFr b d x0) X := by
  have HC := Lib.hid (And.intro HC1 HC3)
  clear HC1 HC3
  have hszo : ops.size = 5 + 1 := by rw [hops]; exact mcb_size
  have hcovo : covered ops 5 = true := by rw [hops]; exact mcb_cov
  refine region_last (mcbFr b d) (fun V => M2 w b8 b9 t u pa pb ca cb V) (fun V Y => Below V.heap.size V Y) (mcbVals w u pb cb mv) x0 5 (by kernel_rfl) rfl hS hszo hcovo (fun V Y h hb => h.below hb) (fun i v V Y _ h hb => mcbVals_keep i v V Y h hb) ?_
  have HFIN := Lib.hid hfin
  clear hfin hS hszo hcovo
  obtain ⟨gl, hgl⟩ : ∃ qq, LastAt Try.prog (mcbFr b d) (fun V => M2 w b8 b9 t u pa pb ca cb V) (mcbVals w u pb cb mv) ops Q 5 = qq := ⟨_, rfl⟩
  rw [hgl]
  obtain ⟨f, hf⟩ : ∃ qq, StepAt Try.prog (mcbFr b d) (fun V => M2 w b8 b9 t u pa pb ca cb V) (fun V Y => Below V.heap.size V Y) (mcbVals w u pb cb mv) ops Q = qq := ⟨_, rfl⟩
  rw [hf, hops]
  simp only [mcbOps, Try.f3, regionIn, Option.getD_some, Nat.reduceBEq, Bool.false_eq_true, if_false, if_true, beq_self_eq_true, Array.append_empty, Array.empty_append, List.append_eq, List.cons_append, List.nil_append, AllBut, Nat.reduceAdd, Nat.zero_add]
  -- 0: slot 44 := Op.move t2
  refine And.intro ?_ ?_
  · clear HFIN hgl
    rw [← hf]; clear hf
    refine ⟨by decide +kernel, fun x v => by kernel_rfl, fun x V hV hdep K hK => ?_⟩
    clear hdep
    refine run_bare (by kernel_rfl) ?_
    unfold mcbFr
    go_simp
    refine kfit (hK _ _ (Below.refl _ V) rfl) ?_
    first | (simp only [mcbFr, Act.put, List.setIfInBounds_toArray, List.set_cons_zero, List.set_cons_succ, h2, h9]; done) | (simp only [mcbFr, Act.put, List.setIfInBounds_toArray, List.set_cons_zero, List.set_cons_succ, h2, h9]; rfl)
  -- 1: slot 45 := Op.call { value (Operand.func 7), args := #[t44], argTypes :
  refine And.intro ?_ ?_
  · clear HFIN hgl
    rw [← hf]; clear hf
    refine ⟨by decide +kernel, fun x v => by kernel_rfl, fun x V hV hdep K hK => ?_⟩
    have e0 : x 0 = mv := depOf hdep 0 (by decide +kernel)
    clear hdep
    refine run_bare (by kernel_rfl) ?_
    unfold mcbFr
    obtain ⟨HC1, HC3⟩ := HC.out
    clear HC3
    have H := HC1 V hV
    replace H := Lib.hid H; clear HC1
    go_simp
    go_at_call 7
    refine H.out.mono ?_
    rintro e Y ⟨⟨zm, rfl, hq⟩, hb⟩; refine kfit (hK _ _ hb ⟨zm, rfl, hq⟩) ?_
    first | (simp only [mcbFr, Act.put, List.setIfInBounds_toArray, List.set_cons_zero, List.set_cons_succ, h2, h9, e0]; done) | (simp only [mcbFr, Act.put, List.setIfInBounds_toArray, List.set_cons_zero, List.set_cons_succ, h2, h9, e0]; rfl)
  -- 2: slot 46 := Op.load 26 t9
  refine And.intro ?_ ?_
  · clear HFIN hgl
    rw [← hf]; clear hf
    refine ⟨by decide +kernel, fun x v => by kernel_rfl, fun x V hV hdep K hK => ?_⟩
    clear hdep
    refine run_bare (by kernel_rfl) ?_
    unfold mcbFr
    obtain ⟨y0, y1, y2⟩ := hV.1.2.cells
    go_simp
    refine kfit (hK _ _ (Below.refl _ V) rfl) ?_
    first | (simp only [mcbFr, Act.put, List.setIfInBounds_toArray, List.set_cons_zero, List.set_cons_succ, h2, h9]; done) | (simp only [mcbFr, Act.put, List.setIfInBounds_toArray, List.set_cons_zero, List.set_cons_succ, h2, h9]; rfl)
  -- 3: slot 47 := Op.call { value (Operand.func 6), args := #[t45, t46], argTy
  refine And.intro ?_ ?_
  · clear HFIN hgl
    rw [← hf]; clear hf
    refine ⟨by decide +kernel, fun x v => by kernel_rfl, fun x V hV hdep K hK => ?_⟩
    obtain ⟨zm1, e1, d1⟩ : ∃ zm1, x 1 = zm1 ∧ ByR zm1 V := depOf hdep 1 (by decide +kernel)
    have e2 : x 2 = .agg #[.int .i64 (u).kind, .string (u).name, .slice pb (u).kids.length cb] := depOf hdep 2 (by decide +kernel)
    clear hdep
    refine run_bare (by kernel_rfl) ?_
    unfold mcbFr
    obtain ⟨HC1, HC3⟩ := HC.out
    clear HC1
    have H := HC3 V hV _ d1
    replace H := Lib.hid H; clear HC3
    go_simp
    go_at_call 6
    refine H.out.mono ?_
    rintro e Y ⟨⟨zt, za, zc, rfl, hq⟩, hb⟩; refine kfit (hK _ _ hb ⟨zt, za, zc, rfl, hq⟩) ?_
    first | (simp only [mcbFr, Act.put, List.setIfInBounds_toArray, List.set_cons_zero, List.set_cons_succ, h2, h9, e1, e2]; done) | (simp only [mcbFr, Act.put, List.setIfInBounds_toArray, List.set_cons_zero, List.set_cons_succ, h2, h9, e1, e2]; rfl)
  -- 4: slot 10 := Op.alloc 26
  refine And.intro ?_ ?_
  · clear HFIN hgl
    rw [← hf]; clear hf
    refine ⟨by decide +kernel, fun x v => by kernel_rfl, fun x V hV hdep K hK => ?_⟩
    clear hdep
    refine run_bare (by kernel_rfl) ?_
    unfold mcbFr
    go_simp
    refine kfit (hK _ _ (below_a _ _) ⟨_, rfl, ⟨hV.2.size, alloc_new _ _⟩⟩) ?_
    first | (simp only [mcbFr, Act.put, List.setIfInBounds_toArray, List.set_cons_zero, List.set_cons_succ, h2, h9]; done) | (simp only [mcbFr, Act.put, List.setIfInBounds_toArray, List.set_cons_zero, List.set_cons_succ, h2, h9]; rfl)
  -- 5: slot none := Op.store 26 t10 t47
  · clear HC
    rw [← hgl]; clear hgl
    refine ⟨by decide +kernel, fun x V hV hall K hK => ?_⟩
    obtain ⟨k, e4, hk, hz⟩ : ∃ zk, x 4 = .pointer (some ⟨zk, 0, none⟩) ∧ (w.heap.size ≤ zk ∧ V.heap[zk]? = some zeroT) := hall 4 (by decide)
    obtain ⟨zt, a, c, e3, hpr, hp⟩ : ∃ (zt : T) (za : Option Addr) (zc : Nat), x 3 = .agg #[.int .i64 zt.kind, .string zt.name, .slice za zt.kids.length zc] ∧ (CaseOf u zt ∧ TysAt V (.slice za zt.kids.length zc) zt.kids) := hall 3 (by decide)
    clear hall
    refine run_bare (by kernel_rfl) ?_
    unfold mcbFr
    obtain ⟨z0, z1, z2⟩ := three_cells hz
    have u0 := Lib.frozen_of_heap hz 0; have u1 := Lib.frozen_of_heap hz 1; have u2 := Lib.frozen_of_heap hz 2
    have H := Lib.hid (HFIN.out x _ k zt a c e4 (⟨⟨hV.1.1.fill hz (fun _ hj => set3_others _ _ _ hj), hV.1.2.fill hz (fun _ hj => set3_others _ _ _ hj)⟩, below_set3 hV.2 hk _ _ _⟩) (fill_box hz hp) hpr)
    clear HFIN hV hp
    go_simp
    refine kfit (hK undef _ H.out) ?_
    first | (simp only [mcbFr, Act.put, h2, h9, e4, e3]; done) | (simp only [mcbFr, Act.put, h2, h9, e4, e3]; rfl)
theorem mcb_here {w : World} {b8 b9 : Nat} {t u : T} {pa pb : Option Addr} {ca cb : Nat} {mv : Value}
    (HC1 : ∀ V, M2 w b8 b9 t u pa pb ca cb V → Calls Try.prog 7 #[mv] V fun e Y => (∃ zm, e = .returned (zm) ∧ ByR zm Y) ∧ Below V.heap.size V Y)
    (HC3 : ∀ V, M2 w b8 b9 t u pa pb ca cb V → ∀ zm1, ByR zm1 V → Calls Try.prog 6 #[zm1, .agg #[.int .i64 (u).kind, .string (u).name, .slice pb (u).kids.length cb]] V fun e Y => (∃ (zt : T) (za : Option Addr) (zc : Nat), e = .returned (.agg #[.int .i64 zt.kind, .string zt.name, .slice za zt.kids.length zc]) ∧ (CaseOf u zt ∧ TysAt Y (.slice za zt.kids.length zc) zt.kids)) ∧ Below V.heap.size V Y)
    {Q : Exit → Act → World → Prop} {ops : Array Oper} {a : Act} (X : World) (hops : ops = mcbOps)
    (h2 : a.tmps.getD 2 undef = mv) (h9 : a.tmps.getD 9 undef = .pointer (some ⟨b9, 0, none⟩))
    (ha : a = mcbFr (fun j => a.tmps.getD j undef) a.defers (fun i => a.tmps.getD (if i = 4 then 10 else 44 + i) undef)) (hS : M2 w b8 b9 t u pa pb ca cb X.drew)
    (hfin : ∀ x V bk zt ba bc, x 4 = .pointer (some ⟨bk, 0, none⟩) → M2 w b8 b9 t u pa pb ca cb V → BoxT bk zt ba bc V → CaseOf u zt → Q .normal (mcbFr (fun j => a.tmps.getD j undef) a.defers x) V) : (Code.region 8 ops true).wp Try.prog Q a X :=
  cast (congrArg (fun z => (Code.region 8 ops true).wp Try.prog Q z X) ha.symm) (mcb_region (b := fun j => a.tmps.getD j undef) (d := a.defers) h2 h9 HC1 HC3 hops _ X hS hfin)
end Go.Proofs.Ytdcfemojkdoakaa
