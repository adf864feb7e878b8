/- A row of texts from behind: slices.Backward over this program. -/
import Derived.Test.YtdooeghicdaakaaGreatDoorParTree
import Derived.Test.YtdooeghicdaakaaGreatDoorTold
namespace Go.Proofs.YtdooeghicdaakaaGreatDoor
open Go.RowKit
attribute [local go_sem] Oper.semAt_some

theorem TyIn.keepC {ok : Nat → Prop} {w w' : World} (hk : ∀ (k : Nat) (cs : Array Value) (T : TypeId) (fz : Nat × Nat), ok k → w.heap[k]? = some (.cells cs T fz) → w'.heap[k]? = some (.cells cs T fz)) {t : Ty} {v : Value} (h : TyIn ok w t v) : TyIn ok w' t v := by
  have key : ∀ {T : TypeId} {v : Value} {n : Nat} {P : (Nat → Option Value) → Prop}, RowIn ok w T v n P → RowIn ok w' T v n P := fun {T v n P} h => by
    obtain ⟨p, cap, rfl, h⟩ := h
    refine ⟨p, cap, rfl, ?_⟩
    rcases h with h | ⟨g, e, hc, hg, cs, fz, hh, hp⟩
    · exact .inl h
    · exact .inr ⟨g, e, hc, hg, cs, fz, hk _ _ _ _ hg hh, hp⟩
  induction h with
  | mk t v X h _ ih => exact .mk t v X (key h) ih
theorem ExIn.keepC {ok : Nat → Prop} {w w' : World} (hk : ∀ (k : Nat) (cs : Array Value) (T : TypeId) (fz : Nat × Nat), ok k → w.heap[k]? = some (.cells cs T fz) → w'.heap[k]? = some (.cells cs T fz)) {e : E} {l a b : Value} (h : ExIn ok w e l a b) : ExIn ok w' e l a b := by
  have key : ∀ {T : TypeId} {v : Value} {n : Nat} {P : (Nat → Option Value) → Prop}, RowIn ok w T v n P → RowIn ok w' T v n P := fun {T v n P} h => by
    obtain ⟨p, cap, rfl, h⟩ := h
    refine ⟨p, cap, rfl, ?_⟩
    rcases h with h | ⟨g, e, hc, hg, cs, fz, hh, hp⟩
    · exact .inl h
    · exact .inr ⟨g, e, hc, hg, cs, fz, hk _ _ _ _ hg hh, hp⟩
  induction h with
  | mk e l a b L1 L2 L3 V A1 A2 A3 S1 S2 S3 B1 B2 B3 h1 h2 h3 _ h5 _ h7 _ i4 i6 i8 =>
    refine .mk e l a b L1 L2 L3 V A1 A2 A3 S1 S2 S3 B1 B2 B3 (key h1) (key h2) (key h3) i4 (fun i hi => key (h5 i hi)) i6 (fun i hi => ?_) i8
    obtain ⟨g1, ⟨X, g2, g3⟩, g4⟩ := h7 i hi
    exact ⟨key g1, ⟨X, key g2, fun j hj => (g3 j hj).keepC hk⟩, g4.keepC hk⟩

def encB (vs : List ByteArray) (i : Nat) : Array Value := #[.int .i64 (i : Int), .string (vs.getD i ⟨#[]⟩)]
theorem range_back (m n : Nat) (pre : List Nat) (h : pre ++ (List.range (m + 1)).reverse = (List.range n).reverse) : (pre ++ [m]) ++ (List.range m).reverse = (List.range n).reverse := by
  rw [← h, List.range_succ]; simp

set_option maxRecDepth 100000 in
set_option maxHeartbeats 2000000 in
theorem back_told (n : Nat) (hn : 1 ≤ n) (vs : List ByteArray) (hvs : vs.length ≤ 20001) (a : Option Addr) (cap g Bn : Nat) (w : World) (hBn : w.cell? ⟨Bn, 0, none⟩ = some (.slice a vs.length cap))
    (hrow : ∀ i, i < vs.length → a = some ⟨g, 0, none⟩ ∧ vs.length ≤ cap ∧ w.cell? ⟨g, i, none⟩ = some (.string (vs.getD i ⟨#[]⟩))) :
    SeqTold n Tryz.prog 71 #[.pointer (some ⟨Bn, 0, none⟩)] (encB vs) (fun _ _ => True) (fun k => k = Bn ∨ k = g) (fun xs => xs = (List.range vs.length).reverse) (fun _ => True) (vs.length + 1) w := by
  intro l J Jx W hW hY h0
  have hBW : W.cell? ⟨Bn, 0, none⟩ = some (.slice a vs.length cap) := (hW.cell (p := ⟨Bn, 0, none⟩) (World.block_lt_of_cell? _ _ hBn)).trans hBn
  have hrW : ∀ i, i < vs.length → a = some ⟨g, 0, none⟩ ∧ vs.length ≤ cap ∧ W.cell? ⟨g, i, none⟩ = some (.string (vs.getD i ⟨#[]⟩)) := fun i hi => by
    obtain ⟨e1, e2, e3⟩ := hrow i hi
    exact ⟨e1, e2, (hW.cell (p := ⟨g, i, none⟩) (World.block_lt_of_cell? _ _ e3)).trans e3⟩
  have HRW := Lib.hid hrW
  clear hBn hrow hrW
  refine callsIn_of_wp Tryz.func71 rfl trivial ?_ rfl
  simp only [Tryz.ntmps71, List.size_toArray, List.length_cons, List.length_nil, Nat.reduceAdd, Nat.reduceSub, Array.replicate_succ, Array.replicate_zero, List.push_toArray, List.append_toArray, List.nil_append, List.cons_append]
  gi_wp2
  gi_loopw [3] (fun vi wr => ∃ (m : Nat) (pre : List Nat), vi = .int .i64 ((m : Int) - 1) ∧ (m ≤ vs.length ∧ pre.length + m = vs.length) ∧ Hid (pre ++ (List.range m).reverse = (List.range vs.length).reverse) ∧ J pre wr ∧
      wr.cell? ⟨Bn, 0, none⟩ = some (.slice a vs.length cap) ∧ Hid (∀ i, i < vs.length → a = some ⟨g, 0, none⟩ ∧ vs.length ≤ cap ∧ wr.cell? ⟨g, i, none⟩ = some (.string (vs.getD i ⟨#[]⟩)))) (fun vi _ => (intOf vi + 1).toNat)
  case atStart => exact ⟨vs.length, [], rfl, ⟨Nat.le_refl _, by simp⟩, Lib.hid (by simp), h0, hBW, HRW⟩
  case round =>
    obtain ⟨m, pre, rfl, ⟨hm, hpl⟩, hpre, hJ, hBr, hRr⟩ := hrel
    by_cases hpos : 0 < m
    · obtain ⟨m', rfl⟩ : ∃ m', m = m' + 1 := ⟨m - 1, by omega⟩
      have hI : ((m' + 1 : Nat) : Int) - 1 = (m' : Int) := by omega
      obtain ⟨rfl, hcap, hcell⟩ := hRr.out m' (by omega)
      obtain ⟨fn, tmps, assign, body, hy, hR⟩ := hY pre m' wr wr hJ (by omega) (Below.refl _ _) trivial
      dsimp only [encB] at hy
      rw [hI]
      have hlt1 : (m' : Int) < (vs.length : Int) := by omega
      have hge1 : (0 : Int) ≤ (m' : Int) := by omega
      have HPre := Lib.hid (range_back m' vs.length pre hpre.out)
      obtain ⟨t, ht⟩ : ∃ t, vs.getD m' ⟨#[]⟩ = t := ⟨_, rfl⟩
      rw [ht] at hcell hy
      clear hY hI ht hBW HRW hpre
      gi_wp2
      refine hR.mono ?_
      clear hR hy
      rintro e W3 (⟨rfl, hJ3, hk3⟩ | ⟨rfl, hJx3⟩)
      · have hbl : ∀ (b o : Nat) (u : Value), b = Bn ∨ b = g → wr.cell? ⟨b, o, none⟩ = some u → W3.cell? ⟨b, o, none⟩ = some u := fun b o u hb hu => by
          have q1 := World.block_lt_of_cell? _ _ hu
          have q3 := hk3.block b (.inr hb) q1
          exact (World.cell?_of_block (a := ⟨b, o, none⟩) q3).trans hu
        have cB := hbl Bn 0 _ (.inl rfl) hBr
        have CR := Lib.hid (fun i (hi : i < vs.length) => (⟨rfl, (hRr.out i hi).2.1, hbl g i _ (.inr rfl) (hRr.out i hi).2.2⟩ : (some (⟨g, 0, none⟩ : Addr) = some ⟨g, 0, none⟩ ∧ vs.length ≤ cap ∧ W3.cell? ⟨g, i, none⟩ = some (.string (vs.getD i ⟨#[]⟩)))))
        clear hbl hk3
        gi_wp2
        go_roundw
        case rel => exact ⟨m', pre ++ [m'], by go_num, ⟨by omega, by simp; omega⟩, HPre, hJ3, cB, CR⟩
        case measure => simp [intOf]
      · gi_wp2
        refine bodyPost_ret (results_none rfl _ _ _) rfl ⟨⟨_, rfl⟩, .inr ⟨_, trivial, hJx3⟩⟩
    · obtain rfl : m = 0 := by omega
      clear hY hBW HRW
      gi_wp2
      go_end0
      exact ⟨⟨_, rfl⟩, .inl ⟨pre, by have := hpre.out; simpa using this, hJ⟩⟩
end Go.Proofs.YtdooeghicdaakaaGreatDoor
