/- TypesParts, walked. -/
import Derived.Test.YteoelcefjjmjiaaTySeen
import Derived.Test.YteoelcefjjmjiaaTyAll
import Derived.Stop.RegionWithIn
import Derived.Maps.AppendAt
import Derived.Deep.RegionHeld3
namespace Go.Proofs.Yteoelcefjjmjiaa
open Go.RowKit
attribute [local go_sem] Oper.semAt_some

theorem new_b (w : World) (o1 o2 o3 : Obj) : (((w.alloc o1).alloc o2).alloc o3).heap[w.heap.size + 1]? = some o2 := by
  rw [Below.heap_alloc _ _ _ (by simp)]; have := alloc_new (w.alloc o1) o2; simpa using this
theorem new_c (w : World) (o1 o2 o3 : Obj) : (((w.alloc o1).alloc o2).alloc o3).heap[w.heap.size + 1 + 1]? = some o3 := by
  have := alloc_new ((w.alloc o1).alloc o2) o3; simpa using this
/-- What the first loop keeps: how many, which variables. -/
def PI (N M : Nat) (V : World) (nn : Nat) (s : Value) (q : List ByteArray) (X : World) : Prop :=
  ((X.heap[N + 1]? = some (.cells #[.int .i64 (nn : Int)] 3 (0, 0)) ∧ X.heap[N + 2]? = some (.cells #[s] 35 (0, 0))) ∧ X.ownsRow M 9 1 s q.length (q.map Value.string)) ∧ M ≤ X.heap.size ∧ Below (N + 1) V X
theorem PI.kept {N M : Nat} {V : World} {nn : Nat} {s : Value} {q : List ByteArray} {X Y : World} {row : Option Nat} (h : PI N M V nn s q X) (hg : X.grownBy Y row) (hr : ∀ r, row = some r → ∃ o : Obj, X.heap[r]? = some o ∧ o.isCells = false) (hb : Below (N + 1) V Y) : PI N M V nn s q Y :=
  ⟨⟨⟨block_kept h.1.1.1 hg hr, block_kept h.1.1.2 hg hr⟩, row_kept h.1.2 fun _ _ _ hk => block_kept hk hg hr⟩, Nat.le_trans h.2.1 hg.size, hb⟩
theorem PI.below {N M : Nat} {V : World} {nn : Nat} {s : Value} {q : List ByteArray} {X Y : World} (h : PI N M V nn s q X) (hb : Below X.heap.size X Y) (hN : N + 1 ≤ M) : PI N M V nn s q Y :=
  h.kept (row := none) (grown_of_below hb) (fun r e => by cases e) (h.2.2.trans (hb.mono (by have := h.2.1; omega)))
theorem PI.cast {N M : Nat} {V : World} {nn nn' : Nat} {s : Value} {q q' : List ByteArray} {X : World} (e1 : nn' = nn) (e2 : q' = q) (h : PI N M V nn s q X) : PI N M V nn' s q' X := by subst e1 e2; exact h
theorem PI.tick {N M : Nat} {V : World} {nn : Nat} {s : Value} {q : List ByteArray} {X : World} (h : PI N M V nn s q X) : PI N M V (nn + 1) s q (X.setCell ⟨N + 1, 0, none⟩ (.int .i64 ((nn : Int) + 1))) := by
  have hoth : ∀ k, k ≠ N + 1 → (X.setCell ⟨N + 1, 0, none⟩ (.int .i64 ((nn : Int) + 1))).heap[k]? = X.heap[k]? := fun k hk => Below.heap_setCell _ ⟨N + 1, 0, none⟩ _ k hk
  refine ⟨⟨⟨?_, (hoth _ (by omega)).trans h.1.1.2⟩, row_kept h.1.2 fun k cs fz hk => ?_⟩, by simpa using h.2.1, h.2.2.setCell (p := ⟨N + 1, 0, none⟩) (Nat.le_refl _) _⟩
  · have := blk_set (o := 0) h.1.1.1 (.int .i64 ((nn : Int) + 1))
    rw [this]; simp
  · by_cases e : k = N + 1
    · subst e; rw [h.1.1.1] at hk; cases hk
    · exact (hoth k e).trans hk
theorem PI.app {N M : Nat} {V : World} {nn : Nat} {s v' : Value} {q : List ByteArray} {x : ByteArray} {X w1 : World} {o : Obj} (h : PI N M V nn s q X) (hM : N + 3 ≤ M) (hown' : w1.ownsRow M 9 1 v' (q.length + 1) (q.map Value.string ++ [.string x])) (hg : (X.alloc o).grownBy w1 s.ownBlock) :
    PI N M V nn v' (q ++ [x]) (w1.setCell ⟨N + 2, 0, none⟩ v') := by
  have hs := h.1.2
  have hM' := h.2.1
  have hne : ∀ k, some k ≠ s.ownBlock → k < X.heap.size → w1.heap[k]? = X.heap[k]? := fun k hk hx => (hg.block k (by simp; omega) hk).trans (Below.heap_alloc X o k hx)
  have hlow : ∀ k, k < M → some k ≠ s.ownBlock := fun k hk e => by have := (hs.lt k e.symm).1; omega
  have hoth : ∀ k, k ≠ N + 2 → (w1.setCell ⟨N + 2, 0, none⟩ v').heap[k]? = w1.heap[k]? := fun k hk => Below.heap_setCell _ ⟨N + 2, 0, none⟩ _ k hk
  have h2 : w1.heap[N + 2]? = some (.cells #[s] 35 (0, 0)) := (hne _ (hlow _ (by omega)) (by omega)).trans h.1.1.2
  have hsz : X.heap.size ≤ w1.heap.size := by have := hg.size; simp at this; omega
  refine ⟨⟨⟨(hoth _ (by omega)).trans ((hne _ (hlow _ (by omega)) (by omega)).trans h.1.1.1), ?_⟩, ?_⟩, by simp; omega, ?_⟩
  · have := blk_set (o := 0) h2 v'
    rw [this]; simp
  · have e1 : (q ++ [x]).map Value.string = q.map Value.string ++ [.string x] := by simp
    rw [e1, List.length_append]
    refine row_kept hown' fun k cs fz hk => ?_
    by_cases e : k = N + 2
    · subst e; rw [h2] at hk; cases hk
    · exact (hoth k e).trans hk
  · have hb : Below (N + 1) X w1 := ⟨hg.os, hg.tape, hg.output, hsz, fun k hk => hne k (hlow k (by omega)) (by omega)⟩
    exact (h.2.2.trans hb).setCell (p := ⟨N + 2, 0, none⟩) (by show N + 1 ≤ N + 2; omega) _

theorem PI.app_cells {N M : Nat} {V : World} {nn : Nat} {s : Value} {q : List ByteArray} {X w1 : World} {o : Obj} (h : PI N M V nn s q X) (hM : N + 3 ≤ M) (hg : (X.alloc o).grownBy w1 s.ownBlock) :
    w1.heap[N + 1]? = some (.cells #[.int .i64 (nn : Int)] 3 (0, 0)) ∧ w1.heap[N + 2]? = some (.cells #[s] 35 (0, 0)) := by
  have hs := h.1.2
  have hM' := h.2.1
  have hne : ∀ k, some k ≠ s.ownBlock → k < X.heap.size → w1.heap[k]? = X.heap[k]? := fun k hk hx => (hg.block k (by simp; omega) hk).trans (Below.heap_alloc X o k hx)
  have hlow : ∀ k, k < M → some k ≠ s.ownBlock := fun k hk e => by have := (hs.lt k e.symm).1; omega
  exact ⟨(hne _ (hlow _ (by omega)) (by omega)).trans h.1.1.1, (hne _ (hlow _ (by omega)) (by omega)).trans h.1.1.2⟩
theorem row_cells {W : World} {base : Nat} {e : TypeId} {size : Nat} {v : Value} {n : Nat} {xs : List Value} (h : W.ownsRow base e size v n xs) (j : Nat) (o : Obj) (hj : v.ownBlock = some j) (ho : W.heap[j]? = some o) : o.isCells = true := by
  rcases h.2 with ⟨rfl, _⟩ | ⟨g, cap, cur, rfl, _, hg, _⟩
  · cases hj
  · obtain rfl : g = j := by simpa [Value.ownBlock] using hj
    rw [hg] at ho; cases ho; rfl
theorem others_grown {X w1 : World} {o : Obj} {base : Nat} {e : TypeId} {size : Nat} {v : Value} {n : Nat} {xs : List Value} (h : X.ownsRow base e size v n xs) (hg : (X.alloc o).grownBy w1 v.ownBlock) : KeepsOthers X w1 :=
  (KeepsOthers.alloc X o).trans (KeepsOthers.of_grownBy hg fun j ob hj ho => by
    have hlt := (h.lt j hj).2
    rw [Below.heap_alloc X o j hlt] at ho
    exact row_cells h j ob hj ho)

/-- What all that follows the first loop keeps. -/
def RI (N M D : Nat) (V : World) (nn : Nat) (s : Value) (q : List ByteArray) (v : Value) (X : World) : Prop := (PI N M V nn s q X ∧ TextsAt X v q) ∧ X.heap[D]? = some (.deferred (some []))
theorem RI.below {N M D : Nat} {V : World} {nn : Nat} {s v : Value} {q : List ByteArray} {X Y : World} (h : RI N M D V nn s q v X) (hb : Below X.heap.size X Y) (hN : N + 1 ≤ M) : RI N M D V nn s q v Y :=
  ⟨⟨h.1.1.below hb hN, h.1.2.below hb⟩, (hb.block D (Array.getElem?_eq_some_iff.1 h.2).1).trans h.2⟩

theorem RI.kept {N M D : Nat} {V : World} {nn : Nat} {s v : Value} {q : List ByteArray} {X Y : World} {row : Option Nat} (h : RI N M D V nn s q v X) (hg : X.grownBy Y row) (hr : ∀ r, row = some r → ∃ o : Obj, X.heap[r]? = some o ∧ o.isCells = false) (hb : Below (N + 1) V Y) (hD : row ≠ some D) : RI N M D V nn s q v Y :=
  ⟨⟨h.1.1.kept hg hr hb, h.1.2.keep fun _ _ _ hk => block_kept hk hg hr⟩, (hg.block D (Array.getElem?_eq_some_iff.1 h.2).1 (fun e => hD e.symm)).trans h.2⟩
theorem RI.set {N M D S : Nat} {V : World} {nn : Nat} {s v x : Value} {q : List ByteArray} {X : World} {cs : Array Value} {fz : Nat × Nat} (h : RI N M D V nn s q v X) (hS : X.heap[S]? = some (.cells cs 3 fz)) (hM : M ≤ S) (hN : N + 3 ≤ M) : RI N M D V nn s q v (X.setCell ⟨S, 0, none⟩ x) := by
  have hoth : ∀ k, k ≠ S → (X.setCell ⟨S, 0, none⟩ x).heap[k]? = X.heap[k]? := fun k hk => Below.heap_setCell _ ⟨S, 0, none⟩ _ k hk
  have hstr : ∀ (k : Nat) (cs : Array Value) (fz : Nat × Nat), X.heap[k]? = some (.cells cs 9 fz) → (X.setCell ⟨S, 0, none⟩ x).heap[k]? = some (.cells cs 9 fz) := fun k cs fz hk => by
    by_cases e : k = S
    · subst e; rw [hS] at hk; cases hk
    · exact (hoth k e).trans hk
  refine ⟨⟨⟨⟨⟨(hoth _ (by omega)).trans h.1.1.1.1.1, (hoth _ (by omega)).trans h.1.1.1.1.2⟩, row_kept h.1.1.1.2 hstr⟩, by simpa using h.1.1.2.1, h.1.1.2.2.setCell (p := ⟨S, 0, none⟩) (by show N + 1 ≤ S; omega) _⟩, h.1.2.keep hstr⟩, (hoth D ?_).trans h.2⟩
  rintro rfl
  have h2 := h.2
  rw [hS] at h2; cases h2
def RJ (N M D S D2 : Nat) (V : World) (nn : Nat) (s : Value) (q : List ByteArray) (v : Value) (X : World) : Prop := RI N M D V nn s q v X ∧ X.heap[S]? = some (.cells #[.int .i64 1] 3 (0, 0)) ∧ X.heap[D2]? = some (.deferred (some []))
theorem first_below {N M D S D2 : Nat} {V : World} {nn : Nat} {s v : Value} {q : List ByteArray} {X Y : World} (h : RJ N M D S D2 V nn s q v X) (hb : Below X.heap.size X Y) (hN : N + 1 ≤ M) : RJ N M D S D2 V nn s q v Y :=
  ⟨h.1.below hb hN, (hb.block S (Array.getElem?_eq_some_iff.1 h.2.1).1).trans h.2.1, (hb.block D2 (Array.getElem?_eq_some_iff.1 h.2.2).1).trans h.2.2⟩
theorem wpIn_noPanic {F : Fence} {n : Nat} {P : Program} {c : Code} {Q : Exit → Act → World → Prop} {a : Act} {w : World} (h : c.wpIn F n P (NoPanic Q) a w) : c.wpIn F n P Q a w := wpIn_mono h NoPanic.imp
set_option maxRecDepth 100000 in
set_option maxHeartbeats 8000000 in
theorem parts_any (a : Option Addr) (n c : Nat) (w : World) (hl : IntsAt w.heap.size a n w) :
    Calls Try.prog 6 #[.slice a n c] w fun e w' => e = .returned (.bool true) ∧ Below w.heap.size w w' := by
  have HL := Lib.hid hl
  clear hl
  by_cases hb : n ≤ 100
  · have hn : n < 1152921504606846976 := by omega
    have hbI : ¬ ((100 : Int) < (n : Int)) := by omega
    have hbD : decide ((100 : Int) < (n : Int)) = false := by simpa using hbI
    refine (callsIn_wide (n := 3)).1 ?_
    refine callsIn_of_wp_marks Try.func6 rfl trivial ?_ rfl
    simp only [Try.ntmps6, List.size_toArray, List.length_cons, List.length_nil, Nat.reduceAdd, Nat.reduceSub, Array.replicate_succ, Array.replicate_zero, List.push_toArray, List.append_toArray, List.nil_append, List.cons_append]
    have HB0 := Lib.hid (fun o => (Below.refl _ w).alloc (Nat.le_refl _) o)
    gi_wp2_with (refine ⟨trivial, ?_⟩; gi_at_call 7; refine (callsIn_wide.2 (first_any _)).mono ?_; rintro e w1 ⟨rfl, h1⟩; have hR := (h1.block w.heap.size (by simp)).trans (alloc_new w _); have HR := Lib.hid hR; have HB1 := Lib.hid ((HB0.out _).trans (h1.mono (by simp))); have lR := (Array.getElem?_eq_some_iff.1 hR).1; clear h1 hR)
    refine (callsIn_wide (n := 2)).2 ?_ |> fun h => ⟨trivial, h⟩
    refine (make_type4 _ _ _ _ _ _ _ (seq_new HB1.out HL.out) (by decide) hn).mono ?_
    rintro e W1 ⟨⟨t, u, rfl, hg, hu⟩, ⟨k1, hk1, hs⟩, hf⟩
    obtain ⟨pa, ca, rfl⟩ := hu.shape
    have HB2 := Lib.hid ((HB1.out.alloc HB1.out.size _).trans hf.1)
    have HT := Lib.hid hu; have HG := Lib.hid hg
    have hR2 := Lib.hid (hf.2 _ _ ((Below.heap_alloc w1 _ _ lR).trans HR.out) (Nat.ne_of_lt lR))
    have lR2 := (Array.getElem?_eq_some_iff.1 hR2.out).1
    clear hu hs hf hg HB1 hk1 HR
    simp only [tyV]
    have hts : tsize t ≤ 1000000000 := by have := size_text t HG.out.1; have := HG.out.2.2; omega
    have HA := Lib.hid (fun (W : World) (k : KeepT W1 W) => all_any (w := W) hts (HT.out.keep k))
    simp only [tyV] at HA
    gi_wp2_with (refine ⟨trivial, ?_⟩; gi_at_call 9; refine (callsIn_wide.2 (HA.out _ ?kk)).mono ?_; (case kk => exact ((keepT_alloc W1 _).trans (keepT_alloc _ _)).trans (keepT_alloc _ _)))
    rintro e W2 ⟨rfl, ⟨pb, cb, q0, q1⟩, q2⟩
    have zt := (q2.block W1.heap.size (by simp; omega)).trans (new_a W1 _ _ _)
    have zn := (q2.block (W1.heap.size + 1) (by simp)).trans (new_b W1 _ _ _)
    have zs := (q2.block (W1.heap.size + 1 + 1) (by simp)).trans (new_c W1 _ _ _)
    have zB : Below W1.heap.size W1 W2 := ((((Below.refl _ W1).alloc (Nat.le_refl _) _).alloc (by simp) _).alloc (by simp; omega) _).trans (q2.mono (by simp; omega))
    simp only [World.size_alloc] at q0 q1 ⊢
    have l2 : W1.heap.size + 1 + 1 + 1 < W2.heap.size := (Array.getElem?_eq_some_iff.1 q0).1
    clear q2 HA
    gi_wp2
    have hBt : BoxT W1.heap.size t pa ca W2 := ⟨zt, HT.out.keep (KeepT.of_below zB)⟩
    have HBt := Lib.hid hBt
    have HBX := Lib.hid (fun (X : World) (h : Below (W1.heap.size + 1) W2 X) => (⟨(h.block _ (by omega)).trans zt, HT.out.keep (KeepT.of_below (zB.trans (h.mono (by omega))))⟩ : BoxT W1.heap.size t pa ca X))
    have hR3 := Lib.hid ((zB.block _ lR2).trans hR2.out)
    have HB3 := Lib.hid (HB2.out.trans (zB.mono HB2.out.size))
    have hPI : PI W1.heap.size W2.heap.size W2 0 (.slice none 0 0) [] W2 := ⟨⟨⟨zn, zs⟩, by simp, .inl ⟨rfl, rfl⟩⟩, Nat.le_refl _, Below.refl _ _⟩
    obtain ⟨N, hN⟩ : ∃ N, W1.heap.size = N := ⟨_, rfl⟩
    obtain ⟨b1, hb1⟩ : ∃ N, w1.heap.size = N := ⟨_, rfl⟩
    have hsame := fun (W : World) (h : BoxT N t pa ca W) (a' : Option Addr) (c' : Nat) (h' : TysAt W (.slice a' t.kids.length c') t.kids) => same_any (w := W) HG.out.2.1 h' h.2
    have e0 : (cmpT t t == 0) = true := by simp [(cmp_zero t t).2 rfl]
    simp only [e0, tyV] at hsame
    have HSame := Lib.hid hsame
    clear hsame e0
    obtain ⟨i0, hi, hz0, hz1, hz2⟩ := info_parts Try.infoStr
    rw [hN] at q0 q1 l2 lR2 HBt HBX hPI ⊢
    rw [hb1]
    have hlen : (parts t).length ≤ 1000 := by rw [parts_len]; have := size_text t HG.out.1; have := HG.out.2.2; omega
    clear hBt hN hb1 zt zn zs zB hR2 HB2 HT hts
    refine range_gen (n := 3) (σ := Value) (by omega) (gf := 32) (lb := #[.pointer (some ⟨N + 1 + 1 + 1, 0, none⟩)]) rfl (enters_of Try.func32 (by kernel_rfl) rfl)
      (all_told 2 (by omega) t (by rw [← parts_len]; omega) (N + 1 + 1 + 1) pb cb (fun k => N + 1 + 1 + 1 < k ∧ k < W2.heap.size) W2 q0 q1)
      (fun k hk => hk.2) (Below.refl _ _) (fun x => rfl)
      (fun s pre X => PI N W2.heap.size W2 pre.length s ((pre.map (·.1)).foldl seenStep []) X)
      (fun _ _ => False)
      (fun s k => (k = N + 1 ∨ k = N + 2) ∨ s.ownBlock = some k)
      ?hI ?hIx ?hT ⟨.slice none 0 0, hPI⟩
      (fun s pre x a' W => ∃ bx, ((W2.heap.size ≤ bx ∧ some bx ≠ s.ownBlock) ∧ BoxT bx x.1 x.2.1 x.2.2 W) ∧ (∃ r, pre.map (·.1) ++ x.1 :: r = parts t) ∧ a' = { tmps := #[.slice a n c, undef, .pointer (some ⟨w.heap.size, 0, none⟩), .bool true, .pointer (some ⟨N, 0, none⟩), .pointer (some ⟨N + 1, 0, none⟩), .pointer (some ⟨N + 1 + 1, 0, none⟩), .pointer (some ⟨bx, 0, none⟩), undef, undef, undef, .bool true, .bool true, .bool false, .slice a n c, .int .i64 (n : Int), .bool false, undef, .slice a n c, .agg #[.slice a n c, .int .i64 0], .pointer (some ⟨b1, 0, none⟩), .agg #[.int .i64 t.kind, .string t.name, .slice pa t.kids.length ca], .agg #[.int .i64 t.kind, .string t.name, .slice pa t.kids.length ca], .func (.func 32) #[] #[.pointer (some ⟨N + 1 + 1 + 1, 0, none⟩)], .agg #[.int .i64 x.1.kind, .string x.1.name, .slice x.2.1 x.1.kids.length x.2.2], undef, undef, undef, undef, undef, undef, undef, undef, undef, undef, undef, undef, undef, undef, undef, undef, undef, undef, undef, undef, undef, undef, undef, undef, undef, undef, undef, undef, undef, undef, undef, undef, undef, undef, undef, undef, undef, undef, undef, undef, undef, undef, undef, undef, undef, undef, undef, undef, undef, undef, undef, undef, undef, undef, undef, undef, undef, undef, undef, undef, undef, undef, undef, undef, undef, undef, undef], defers := [] })
      ?hAx .ret ?assign ?body ?done ?stop
    case hI => exact fun s pre X Y row h hgr hrr => h.kept hgr (fun r e => (hrr r e).2) (ownFrom_below (β := Unit) (by omega) (by omega) () X Y row h.2.2 hgr hrr)
    case hIx => exact fun _ _ _ _ h => h.elim
    case hT =>
      rintro s pre X k h (⟨rfl | rfl⟩ | hk)
      · exact ⟨(Array.getElem?_eq_some_iff.1 h.1.1.1).1, fun hk => by omega⟩
      · exact ⟨(Array.getElem?_eq_some_iff.1 h.1.1.2).1, fun hk => by omega⟩
      · have := h.1.2.lt k hk; exact ⟨this.2, fun hk => by omega⟩
    case hAx => exact fun s pre x a' _ X Y row ⟨bx, ⟨h1, h2⟩, h3⟩ hgr hrr => ⟨bx, ⟨h1, block_kept h2.1 hgr (fun r e => (hrr r e).2), tysAt_kept h2.2 hgr (fun r e => (hrr r e).2)⟩, h3⟩
    case assign =>
      rintro l s pre x X0 X C hi0 hX hi ⟨⟨hx1, hx2⟩, hx3⟩ hC
      have HX3 := Lib.hid hx3; have HX1 := Lib.hid hx1.tys; have HI := Lib.hid hi
      dsimp only [encA]
      clear hx1 hx2 hx3 hi0 hX hi
      gi_wp2
      exact hC _ _ ((KeepsOthers.alloc X _).from _) ((Below.refl _ X).alloc (Nat.le_refl _) _) ⟨X.heap.size, ⟨⟨HI.out.2.1, fun e => by have := (HI.out.1.2.lt _ e.symm).2; omega⟩, BoxT.new HX1.out⟩, HX3.out, rfl⟩
    case body =>
      rintro l s pre ⟨u, ua, uc⟩ a' X hI hlen2 ⟨bx, ⟨⟨hbx1, hbx2⟩, hbx⟩, hpre, rfl⟩
      dsimp only at hbx hpre ⊢
      obtain ⟨sa, sc, rfl⟩ := row_slice hI.1.2
      have hql : ((pre.map (·.1)).foldl seenStep []).length ≤ 1000 := by have := seen_len (pre.map (·.1)) []; simp only [List.length_nil, List.length_map] at this; omega
      have hfold : ((pre ++ [(u, ua, uc)]).map (·.1)).foldl seenStep [] = seenStep ((pre.map (·.1)).foldl seenStep []) u := by simp
      have hplen : (pre ++ [(u, ua, uc)]).length = pre.length + 1 := by simp
      generalize (pre.map (·.1)).foldl seenStep [] = q at *
      generalize (pre ++ [(u, ua, uc)]) = pre' at *
      obtain ⟨nn, hnn⟩ : ∃ nn, pre.length = nn := ⟨_, rfl⟩
      have HBX1 := Lib.hid hbx; have HF := Lib.hid hfold
      have HBT := Lib.hid (show BoxT N t pa ca X from HBX.out _ hI.2.2)
      rw [hnn] at hI hlen2 hplen
      have HPL := Lib.hid hplen; have HI := Lib.hid hI; have HXY := Lib.hid (Below.refl X.heap.size X)
      have HHas := Lib.hid (fun (W : World) (h : TextsAt W (.slice sa q.length sc) q) => hasR_any q (by omega) u.name sa sc W h)
      have hut : nn = 0 → u = t := fun e => by
        obtain ⟨r, hr⟩ := hpre
        obtain rfl : pre = [] := List.length_eq_zero_iff.1 (by omega)
        rw [parts_eq] at hr
        simp at hr
        exact hr.1
      clear hbx hfold hI hplen hpre hnn q0 q1 hPI
      obtain ⟨t0, t1, t2⟩ := HBT.out.cells
      obtain ⟨x0, x1, x2⟩ := HBX1.out.cells; have n0 : X.cell? ⟨N + 1, 0, none⟩ = some (.int .i64 (nn : Int)) := (by rw [Lib.cell_of_heap HI.out.1.1.1]; rfl); have s0 : X.cell? ⟨N + 1 + 1, 0, none⟩ = some (.slice sa q.length sc) := (by rw [show N + 1 + 1 = N + 2 from rfl, Lib.cell_of_heap HI.out.1.1.2]; rfl); have fn := Lib.frozen_of_heap HI.out.1.1.1 0; have fs : X.frozen? ⟨N + 1 + 1, 0, none⟩ = false := Lib.frozen_of_heap HI.out.1.1.2 0; have ln : N + 1 < X.heap.size := (Array.getElem?_eq_some_iff.1 HI.out.1.1.1).1; have ls : N + 1 + 1 < X.heap.size := (Array.getElem?_eq_some_iff.1 HI.out.1.1.2).1; have lx := HBX1.out.lt
      have hnb : nn ≤ 1000 := by omega
      by_cases hp : nn = 0
      · have hz : ((nn : Int) == 0) = true := by simpa using hp
        obtain rfl := hut hp
        clear hp hut
        by_cases hk : u.kind = 1
        · have hkB : (u.kind == 1) = true := by simpa using hk
          cases hq : inB q u.name with
          | true =>
            have HE := Lib.hid (seen_in hk hq)
            rw [hq] at HHas
            clear hk hq
            gi_wp2_with (first | (refine ⟨trivial, ?_⟩; gi_at_call 21; refine (callsIn_wide.2 (HSame.out _ HBT.out ua uc HBX1.out.2)).mono ?_; rintro e Y ⟨rfl, hb⟩; clear x0 x1 x2 n0 s0 fn fs ln ls lx t0 t1 t2; replace HXY := Lib.hid (HXY.out.trans (hb.mono HXY.out.size)); replace HI := Lib.hid (HI.out.below hb (by omega)); replace HBX1 := Lib.hid (HBX1.out.below hb); obtain ⟨x0, x1, x2⟩ := HBX1.out.cells; have n0 : Y.cell? ⟨N + 1, 0, none⟩ = some (.int .i64 (nn : Int)) := (by rw [Lib.cell_of_heap HI.out.1.1.1]; rfl); have s0 : Y.cell? ⟨N + 1 + 1, 0, none⟩ = some (.slice sa q.length sc) := (by rw [show N + 1 + 1 = N + 2 from rfl, Lib.cell_of_heap HI.out.1.1.2]; rfl); have fn := Lib.frozen_of_heap HI.out.1.1.1 0; have fs : Y.frozen? ⟨N + 1 + 1, 0, none⟩ = false := Lib.frozen_of_heap HI.out.1.1.2 0; have ln : N + 1 < Y.heap.size := (Array.getElem?_eq_some_iff.1 HI.out.1.1.1).1; have ls : N + 1 + 1 < Y.heap.size := (Array.getElem?_eq_some_iff.1 HI.out.1.1.2).1; have lx := HBX1.out.lt; clear hb HBT) | (refine ⟨trivial, ?_⟩; gi_at_call 14; refine (callsIn_wide.2 (HHas.out _ (TextsAt.of_row HI.out.1.2))).mono ?_; rintro e Z ⟨rfl, rfl⟩) | (refine ⟨trivial, ?_⟩))
            exact ⟨((below_others HXY.out).trans (KeepsOthers.setCell _ _ _)).from _, fun k hk hkX => (Below.heap_setCell _ ⟨N + 1, 0, none⟩ _ k (fun e => hk (.inl (.inl e)))).trans (HXY.out.block k hkX), _, PI.cast HPL.out (HF.out.trans HE.out) HI.out.tick⟩
          | false =>
            have HE := Lib.hid (seen_new hk hq)
            rw [hq] at HHas
            clear hk hq
            gi_wp2_with (first | (refine ⟨trivial, ?_⟩; gi_at_call 21; refine (callsIn_wide.2 (HSame.out _ HBT.out ua uc HBX1.out.2)).mono ?_; rintro e Y ⟨rfl, hb⟩; clear x0 x1 x2 n0 s0 fn fs ln ls lx t0 t1 t2; replace HXY := Lib.hid (HXY.out.trans (hb.mono HXY.out.size)); replace HI := Lib.hid (HI.out.below hb (by omega)); replace HBX1 := Lib.hid (HBX1.out.below hb); obtain ⟨x0, x1, x2⟩ := HBX1.out.cells; have n0 : Y.cell? ⟨N + 1, 0, none⟩ = some (.int .i64 (nn : Int)) := (by rw [Lib.cell_of_heap HI.out.1.1.1]; rfl); have s0 : Y.cell? ⟨N + 1 + 1, 0, none⟩ = some (.slice sa q.length sc) := (by rw [show N + 1 + 1 = N + 2 from rfl, Lib.cell_of_heap HI.out.1.1.2]; rfl); have fn := Lib.frozen_of_heap HI.out.1.1.1 0; have fs : Y.frozen? ⟨N + 1 + 1, 0, none⟩ = false := Lib.frozen_of_heap HI.out.1.1.2 0; have ln : N + 1 < Y.heap.size := (Array.getElem?_eq_some_iff.1 HI.out.1.1.1).1; have ls : N + 1 + 1 < Y.heap.size := (Array.getElem?_eq_some_iff.1 HI.out.1.1.2).1; have lx := HBX1.out.lt; clear hb HBT) | (refine ⟨trivial, ?_⟩; gi_at_call 14; refine (callsIn_wide.2 (HHas.out _ (TextsAt.of_row HI.out.1.2))).mono ?_; rintro e Z ⟨rfl, rfl⟩) | (gi_at_builtin; refine wpListIn_append_own _ rfl _ _ 35 rfl W2.heap.size 9 i0 (.string ⟨#[]⟩) 1 16 Try.underlying35 hi hz0 hz1 hz2 rfl (by decide) _ _ _ rfl (HI.out.1.2.alloc _) ⟨Y.heap.size, 0, none⟩ 1 1 [.string u.name] rfl rfl (new_one _ _ _) (by simp [Value.oneCell']) (by unfold maxLen; omega) (by omega) (by simp; have := HI.out.2.1; omega) ?_; intro v' w1 hown' hgrow _; obtain ⟨ga, gc, rfl⟩ := row_slice hown'; obtain ⟨m1, m2⟩ := HI.out.app_cells (by omega) hgrow; clear x0 x1 x2 n0 s0 fn fs ln ls lx; have n0 : w1.cell? ⟨N + 1, 0, none⟩ = some (.int .i64 (nn : Int)) := (by rw [Lib.cell_of_heap m1]; rfl); have s0 : w1.cell? ⟨N + 1 + 1, 0, none⟩ = some (.slice sa q.length sc) := (by rw [show N + 1 + 1 = N + 2 from rfl, Lib.cell_of_heap m2]; rfl); have fn := Lib.frozen_of_heap m1 0; have fs : w1.frozen? ⟨N + 1 + 1, 0, none⟩ = false := Lib.frozen_of_heap m2 0; have ln : N + 1 < w1.heap.size := (Array.getElem?_eq_some_iff.1 m1).1; have ls : N + 1 + 1 < w1.heap.size := (Array.getElem?_eq_some_iff.1 m2).1; have HGR := Lib.hid hgrow; have HOW := Lib.hid hown'; clear hgrow hown' m1 m2) | (refine ⟨trivial, ?_⟩))
            refine ⟨((below_others HXY.out).trans ((others_grown HI.out.1.2 HGR.out).trans ((KeepsOthers.setCell _ _ _).trans (KeepsOthers.setCell _ _ _)))).from _, fun k hk hkX => ?_, _, PI.cast HPL.out (HF.out.trans HE.out) (HI.out.app (by omega) HOW.out HGR.out).tick⟩
            exact (Below.heap_setCell _ ⟨N + 1, 0, none⟩ _ k (fun e => hk (.inl (.inl e)))).trans ((Below.heap_setCell _ ⟨N + 1 + 1, 0, none⟩ _ k (fun e => hk (.inl (.inr e)))).trans ((HGR.out.block k (by simp; have := HXY.out.size; omega) (fun e => hk (.inr e.symm))).trans ((Below.heap_alloc _ _ k (by have := HXY.out.size; omega)).trans (HXY.out.block k hkX))))
        · have hkB : (u.kind == 1) = false := by simpa using hk
          have HE := Lib.hid (seen_no (out := q) hk)
          clear hk
          gi_wp2_with (first | (refine ⟨trivial, ?_⟩; gi_at_call 21; refine (callsIn_wide.2 (HSame.out _ HBT.out ua uc HBX1.out.2)).mono ?_; rintro e Y ⟨rfl, hb⟩; clear x0 x1 x2 n0 s0 fn fs ln ls lx t0 t1 t2; replace HXY := Lib.hid (HXY.out.trans (hb.mono HXY.out.size)); replace HI := Lib.hid (HI.out.below hb (by omega)); replace HBX1 := Lib.hid (HBX1.out.below hb); obtain ⟨x0, x1, x2⟩ := HBX1.out.cells; have n0 : Y.cell? ⟨N + 1, 0, none⟩ = some (.int .i64 (nn : Int)) := (by rw [Lib.cell_of_heap HI.out.1.1.1]; rfl); have s0 : Y.cell? ⟨N + 1 + 1, 0, none⟩ = some (.slice sa q.length sc) := (by rw [show N + 1 + 1 = N + 2 from rfl, Lib.cell_of_heap HI.out.1.1.2]; rfl); have fn := Lib.frozen_of_heap HI.out.1.1.1 0; have fs : Y.frozen? ⟨N + 1 + 1, 0, none⟩ = false := Lib.frozen_of_heap HI.out.1.1.2 0; have ln : N + 1 < Y.heap.size := (Array.getElem?_eq_some_iff.1 HI.out.1.1.1).1; have ls : N + 1 + 1 < Y.heap.size := (Array.getElem?_eq_some_iff.1 HI.out.1.1.2).1; have lx := HBX1.out.lt; clear hb HBT) | (refine ⟨trivial, ?_⟩))
          exact ⟨((below_others HXY.out).trans (KeepsOthers.setCell _ _ _)).from _, fun k hk hkX => (Below.heap_setCell _ ⟨N + 1, 0, none⟩ _ k (fun e => hk (.inl (.inl e)))).trans (HXY.out.block k hkX), _, PI.cast HPL.out (HF.out.trans HE.out) HI.out.tick⟩
      · have hz : ((nn : Int) == 0) = false := by simpa using hp
        clear hp hut
        by_cases hk : u.kind = 1
        · have hkB : (u.kind == 1) = true := by simpa using hk
          cases hq : inB q u.name with
          | true =>
            have HE := Lib.hid (seen_in hk hq)
            rw [hq] at HHas
            clear hk hq
            gi_wp2_with (first | (refine ⟨trivial, ?_⟩; gi_at_call 14; refine (callsIn_wide.2 (HHas.out _ (TextsAt.of_row HI.out.1.2))).mono ?_; rintro e Z ⟨rfl, rfl⟩) | (refine ⟨trivial, ?_⟩))
            exact ⟨((below_others HXY.out).trans (KeepsOthers.setCell _ _ _)).from _, fun k hk hkX => (Below.heap_setCell _ ⟨N + 1, 0, none⟩ _ k (fun e => hk (.inl (.inl e)))).trans (HXY.out.block k hkX), _, PI.cast HPL.out (HF.out.trans HE.out) HI.out.tick⟩
          | false =>
            have HE := Lib.hid (seen_new hk hq)
            rw [hq] at HHas
            clear hk hq
            gi_wp2_with (first | (refine ⟨trivial, ?_⟩; gi_at_call 14; refine (callsIn_wide.2 (HHas.out _ (TextsAt.of_row HI.out.1.2))).mono ?_; rintro e Z ⟨rfl, rfl⟩) | (gi_at_builtin; refine wpListIn_append_own _ rfl _ _ 35 rfl W2.heap.size 9 i0 (.string ⟨#[]⟩) 1 16 Try.underlying35 hi hz0 hz1 hz2 rfl (by decide) _ _ _ rfl (HI.out.1.2.alloc _) ⟨X.heap.size, 0, none⟩ 1 1 [.string u.name] rfl rfl (new_one _ _ _) (by simp [Value.oneCell']) (by unfold maxLen; omega) (by omega) (by simp; have := HI.out.2.1; omega) ?_; intro v' w1 hown' hgrow _; obtain ⟨ga, gc, rfl⟩ := row_slice hown'; obtain ⟨m1, m2⟩ := HI.out.app_cells (by omega) hgrow; clear x0 x1 x2 n0 s0 fn fs ln ls lx; have n0 : w1.cell? ⟨N + 1, 0, none⟩ = some (.int .i64 (nn : Int)) := (by rw [Lib.cell_of_heap m1]; rfl); have s0 : w1.cell? ⟨N + 1 + 1, 0, none⟩ = some (.slice sa q.length sc) := (by rw [show N + 1 + 1 = N + 2 from rfl, Lib.cell_of_heap m2]; rfl); have fn := Lib.frozen_of_heap m1 0; have fs : w1.frozen? ⟨N + 1 + 1, 0, none⟩ = false := Lib.frozen_of_heap m2 0; have ln : N + 1 < w1.heap.size := (Array.getElem?_eq_some_iff.1 m1).1; have ls : N + 1 + 1 < w1.heap.size := (Array.getElem?_eq_some_iff.1 m2).1; have HGR := Lib.hid hgrow; have HOW := Lib.hid hown'; clear hgrow hown' m1 m2) | (refine ⟨trivial, ?_⟩))
            refine ⟨((below_others HXY.out).trans ((others_grown HI.out.1.2 HGR.out).trans ((KeepsOthers.setCell _ _ _).trans (KeepsOthers.setCell _ _ _)))).from _, fun k hk hkX => ?_, _, PI.cast HPL.out (HF.out.trans HE.out) (HI.out.app (by omega) HOW.out HGR.out).tick⟩
            exact (Below.heap_setCell _ ⟨N + 1, 0, none⟩ _ k (fun e => hk (.inl (.inl e)))).trans ((Below.heap_setCell _ ⟨N + 1 + 1, 0, none⟩ _ k (fun e => hk (.inl (.inr e)))).trans ((HGR.out.block k (by simp; have := HXY.out.size; omega) (fun e => hk (.inr e.symm))).trans ((Below.heap_alloc _ _ k (by have := HXY.out.size; omega)).trans (HXY.out.block k hkX))))
        · have hkB : (u.kind == 1) = false := by simpa using hk
          have HE := Lib.hid (seen_no (out := q) hk)
          clear hk
          gi_wp2_with (first | (refine ⟨trivial, ?_⟩))
          exact ⟨((below_others HXY.out).trans (KeepsOthers.setCell _ _ _)).from _, fun k hk hkX => (Below.heap_setCell _ ⟨N + 1, 0, none⟩ _ k (fun e => hk (.inl (.inl e)))).trans (HXY.out.block k hkX), _, PI.cast HPL.out (HF.out.trans HE.out) HI.out.tick⟩
    case done =>
      rintro D s xs W hD hxs hI hK
      have hq : (xs.map (·.1)).foldl seenStep [] = fvs [] [] [t] := by rw [hxs, seen_good t HG.out.1, fvs_one]
      have hnn : xs.length = tsize t := by rw [← parts_len, ← hxs]; simp
      rw [hq, hnn] at hI
      obtain ⟨sa, sc, rfl⟩ := row_slice hI.1.2
      have hts : tsize t ≤ 1000 := by rw [← parts_len]; exact hlen
      have hql : (fvs [] [] [t]).length ≤ 1000 := by have := seen_len (xs.map (·.1)) []; rw [hq] at this; simp only [List.length_nil, List.length_map] at this; omega
      have HV := Lib.hid (fun (V : World) (k : BoxT N t pa ca V) => vars_any [t] (fun k hk => by simp at hk; subst hk; exact good_nm _ HG.out.1) (by simp [tsizes]; omega) _ _ _ (TysAt.one rfl (TyAt.mk t k.2)))
      have HMem := Lib.hid (fun (x : ByteArray) (h : x ∈ fvs [] [] [t]) => has_own h)
      have HI := Lib.hid hI; have HK := Lib.hid hK
      clear hxs hq hnn hI hK q0 q1 hPI
      have HBT := Lib.hid (show BoxT N t pa ca W from HBX.out _ HI.out.2.2)
      obtain ⟨t0, t1, t2⟩ := HBT.out.cells
      generalize fvs [] [] [t] = q at *
      gi_wp2_with (refine ⟨trivial, ?_⟩; gi_at_call 11; refine (callsIn_wide.2 (HV.out _ HBT.out)).mono ?_)
      rintro e W3 ⟨⟨v, rfl, hv⟩, _, hb⟩
      have hb3 : Below W.heap.size W W3 := ((Below.refl _ W).alloc (Nat.le_refl _) _).trans (hb.mono (by simp))
      obtain ⟨va, vc, rfl⟩ := hv.shape
      have HRI := Lib.hid (show RI N W2.heap.size D W2 (tsize t) (.slice sa q.length sc) q (.slice va q.length vc) W3 from ⟨⟨HI.out.below hb3 (by omega), hv⟩, (hb3.block D (Array.getElem?_eq_some_iff.1 HK.out).1).trans HK.out⟩)
      clear hb hb3 hv HI HK HBT t0 t1 t2 HV
      gi_wp2
      gi_loopw [9] (fun vi wr => ∃ i : Nat, i ≤ q.length ∧ vi = .int .i64 i ∧ Hid (RI N W2.heap.size D W2 (tsize t) (.slice sa q.length sc) q (.slice va q.length vc) wr)) (fun vi _ => q.length - (intOf vi).toNat)
      case atStart => exact ⟨0, Nat.zero_le _, rfl, HRI⟩
      case round =>
        obtain ⟨i, hi', rfl, HR⟩ := hrel
        have HBT := Lib.hid (show BoxT N t pa ca wr from HBX.out _ HR.out.1.1.2.2)
        obtain ⟨t0, t1, t2⟩ := HBT.out.cells
        by_cases hlt : i < q.length
        · obtain ⟨g, rfl, hc, hg, hh⟩ := (HR.out.1.2.part).2 i hlt
          have x0 := hh wr (fun _ _ _ h => h)
          have hm := HMem.out q[i] (List.getElem_mem hlt)
          have hcall := fun (V : World) (h : BoxT N t pa ca V) => has_any (m := q[i]) (t := t) (w := V) (by omega) h.2
          simp only [hm, tyV] at hcall
          have HC := Lib.hid hcall
          clear hh hm hcall HRI
          generalize q[i] = x at x0 HC
          have hlt1 : ((i : Int) < (q.length : Int)) := by omega
          gi_wp2
          refine wpIn_noPanic ?_
          gi_region_with (first
            | (refine ⟨trivial, ?_⟩; gi_at_call 13; refine (callsIn_wide.2 (HC.out _ HBT.out.drew)).mono ?_; rintro e Y ⟨rfl, hb⟩; have HR2 := Lib.hid (HR.out.below ((Below.refl _ wr).drew.trans hb) (by omega)); clear hb))
          all_goals
            refine NoPanic.normal ?_
            gi_wp2
            go_roundw
            case rel => exact ⟨i + 1, by omega, by go_num, HR2⟩
            case measure => simp [intOf]; omega
        · obtain rfl : i = q.length := by omega
          have HA := Lib.hid (fun (V : World) (h : BoxT N t pa ca V) => all_any (t := t) (w := V) (by omega) h.2)
          simp only [tyV] at HA
          have lN := HBT.out.lt
          clear HRI HMem
          gi_wp2_with (refine ⟨trivial, ?_⟩; gi_at_call 9; refine (callsIn_wide.2 (HA.out _ (HBT.out.alloc _))).mono ?_)
          rintro e W4 ⟨rfl, ⟨pd, cd, u0, u1⟩, u2⟩
          have hb4 : Below wr.heap.size wr W4 := ((Below.refl _ wr).alloc (Nat.le_refl _) _).trans (u2.mono (by simp))
          have zS : W4.heap[wr.heap.size]? = some (.cells #[.int .i64 0] 3 (0, 0)) := (u2.block _ (by simp)).trans (alloc_new wr _)
          have HR4 := Lib.hid (HR.out.below hb4 (by omega))
          have hwr : D < wr.heap.size ∧ W2.heap.size ≤ wr.heap.size := ⟨(Array.getElem?_eq_some_iff.1 HR.out.2).1, HR.out.1.1.2.1⟩
          simp only [World.size_alloc] at u0 u1 ⊢
          obtain ⟨S, hS⟩ : ∃ S, wr.heap.size = S := ⟨_, rfl⟩
          rw [hS] at u0 u1 zS hwr ⊢
          clear u2 hb4 HR HBT t0 t1 t2 hS HA lN
          gi_wp2
          have lS := (Array.getElem?_eq_some_iff.1 zS).1
          have hSD : S ≠ D := by omega
          refine range_gen (n := 3) (σ := Unit) (by omega) (gf := 32) (lb := #[.pointer (some ⟨S + 1, 0, none⟩)]) rfl (enters_of Try.func32 (by kernel_rfl) rfl)
            (all_told 2 (by omega) t (by omega) (S + 1) pd cd (fun k => S + 1 < k ∧ k < W4.heap.size) W4 u0 u1)
            (fun k hk => hk.2) (Below.refl _ _) (fun x => rfl)
            (fun _ pre X => (pre = [] ∧ X.heap[S]? = some (.cells #[.int .i64 0] 3 (0, 0))) ∧ RI N W2.heap.size D W2 (tsize t) (.slice sa q.length sc) q (.slice va q.length vc) X)
            (fun _ X => X.heap[S]? = some (.cells #[.int .i64 1] 3 (0, 0)) ∧ RI N W2.heap.size D W2 (tsize t) (.slice sa q.length sc) q (.slice va q.length vc) X)
            (fun _ k => k = S)
            ?hI2 ?hIx2 ?hT2 ⟨(), ⟨rfl, zS⟩, HR4.out⟩
            (fun _ _ x a' _ => a' = { tmps := #[.slice a n c, undef, .pointer (some ⟨w.heap.size, 0, none⟩), .bool true, .pointer (some ⟨N, 0, none⟩), .pointer (some ⟨N + 1, 0, none⟩), .pointer (some ⟨N + 1 + 1, 0, none⟩), undef, .slice va q.length vc, .int .i64 (q.length : Int), .pointer (some ⟨S, 0, none⟩), .bool true, .bool true, .bool false, .slice a n c, .int .i64 (n : Int), .bool false, undef, .slice a n c, .agg #[.slice a n c, .int .i64 0], .pointer (some ⟨b1, 0, none⟩), .agg #[.int .i64 t.kind, .string t.name, .slice pa t.kids.length ca], .agg #[.int .i64 t.kind, .string t.name, .slice pa t.kids.length ca], .func (.func 32) #[] #[.pointer (some ⟨N + 1 + 1 + 1, 0, none⟩)], undef, undef, undef, undef, undef, undef, undef, undef, undef, undef, undef, undef, undef, undef, undef, undef, undef, undef, undef, undef, undef, undef, undef, undef, undef, undef, .agg #[.int .i64 t.kind, .string t.name, .slice pa t.kids.length ca], .slice (some ⟨W.heap.size, 0, none⟩) 1 1, .slice va q.length vc, .int .i64 (q.length : Int), .slice va q.length vc, .int .i64 (q.length : Int), .bool false, u57, u58, u59, u60, u61, u62, u63, u64, u65, .agg #[.int .i64 t.kind, .string t.name, .slice pa t.kids.length ca], .func (.func 32) #[] #[.pointer (some ⟨S + 1, 0, none⟩)], .agg #[.int .i64 x.1.kind, .string x.1.name, .slice x.2.1 x.1.kids.length x.2.2], undef, undef, undef, undef, undef, undef, undef, undef, undef, undef, undef, undef, undef, undef, undef, undef, undef, undef, undef, undef, undef, undef, undef], defers := [] })
            ?hAx2 (.exit 4) ?assign2 ?body2 ?done2 ?stop2
          case hI2 => exact fun _ pre X Y row ⟨⟨h1, h2⟩, h3⟩ hgr hrr => ⟨⟨h1, block_kept h2 hgr (fun r e => (hrr r e).2)⟩, h3.kept hgr (fun r e => (hrr r e).2) (ownFrom_below (β := Unit) (by omega) (by omega) () X Y row h3.1.1.2.2 hgr hrr) (fun e => by have := (hrr D e).1; omega)⟩
          case hIx2 => exact fun pre X Y row ⟨h2, h3⟩ hgr hrr => ⟨block_kept h2 hgr (fun r e => (hrr r e).2), h3.kept hgr (fun r e => (hrr r e).2) (ownFrom_below (β := Unit) (by omega) (by omega) () X Y row h3.1.1.2.2 hgr hrr) (fun e => by have := (hrr D e).1; omega)⟩
          case hT2 =>
            rintro _ pre X k ⟨⟨_, h2⟩, _⟩ rfl
            exact ⟨(Array.getElem?_eq_some_iff.1 h2).1, fun hk => by omega⟩
          case hAx2 => exact fun _ _ _ _ _ _ _ _ h _ _ => h
          case assign2 =>
            rintro l _ pre x X0 X C hi0 hX hi _ hC
            dsimp only [encA]
            gi_wp2
            exact hC _ _ ((KeepsOthers.refl _).from _) (Below.refl _ _) rfl
          case body2 =>
            rintro l _ pre x a' X ⟨⟨rfl, hz⟩, hR⟩ hlen2 rfl
            have z0 : X.cell? ⟨S, 0, none⟩ = some (.int .i64 0) := by rw [Lib.cell_of_heap hz]; rfl
            have fz := Lib.frozen_of_heap hz 0
            have HZ := Lib.hid hz; have HR := Lib.hid hR
            clear hz hR
            gi_wp2
            exact ⟨rfl, (KeepsOthers.setCell _ _ _).from _, by rw [blk_set (o := 0) HZ.out]; rfl, HR.out.set HZ.out (by omega) (by omega)⟩
          case done2 =>
            rintro D2 _ xs2 W5 hD2 hx2 ⟨⟨rfl, _⟩, _⟩ _
            rw [parts_eq] at hx2; cases hx2
          case stop2 =>
            rintro D2 pre W5 hD2 _ ⟨hz, hR⟩ hK2
            have hsz := fun (V : World) (h : BoxT N t pa ca V) => size_any (t := t) (w := V) (by omega) h.2
            have hzz := fun (V : World) (h : BoxT N t pa ca V) => has_any (m := ⟨#[122, 122]⟩) (t := t) (w := V) (by omega) h.2
            simp only [has_good t HG.out.1 ⟨#[122, 122]⟩ (by decide), tyV] at hzz
            simp only [tyV] at hsz
            have hst := fun (V : World) (h : TextsAt V (.slice va q.length vc) q) (h' : TextsAt V (.slice sa q.length sc) q) => sameTexts_any q q (by omega) va sa vc sc V h h'
            rw [eqB_true rfl] at hst
            have HSz := Lib.hid hsz; have HZZ := Lib.hid hzz; have HST := Lib.hid hst
            have HJ := Lib.hid (show RJ N W2.heap.size D S D2 W2 (tsize t) (.slice sa q.length sc) q (.slice va q.length vc) W5 from ⟨hR, hz, hK2⟩)
            clear hsz hzz hst hz hR hK2
            have hbt : BoxT N t pa ca W5 := HBX.out _ HJ.out.1.1.1.2.2; obtain ⟨t0, t1, t2⟩ := hbt.cells; have HBT := Lib.hid hbt; clear hbt; have n0 : W5.cell? ⟨N + 1, 0, none⟩ = some (.int .i64 (tsize t : Int)) := (by rw [Lib.cell_of_heap HJ.out.1.1.1.1.1.1]; rfl); have s0 : W5.cell? ⟨N + 1 + 1, 0, none⟩ = some (.slice sa q.length sc) := (by rw [show N + 1 + 1 = N + 2 from rfl, Lib.cell_of_heap HJ.out.1.1.1.1.1.2]; rfl); have p0 : W5.cell? ⟨S, 0, none⟩ = some (.int .i64 1) := (by rw [Lib.cell_of_heap HJ.out.2.1]; rfl); have hr := (HJ.out.1.1.1.2.2.block w.heap.size (by omega)).trans hR3.out; have r0 : W5.cell? ⟨w.heap.size, 0, none⟩ = some (.bool false) := (by rw [Lib.cell_of_heap hr]; rfl); have fr := Lib.frozen_of_heap hr 0; have HRB := Lib.hid hr; clear hr
            gi_wp2
            refine wpIn_noPanic ?_
            gi_region_with (first
              | (refine ⟨trivial, ?_⟩; gi_at_call 15; refine (callsIn_wide.2 (HSz.out _ HBT.out.drew)).mono ?_; rintro e Y1 ⟨rfl, hb⟩; clear t0 t1 t2 n0 s0 p0 r0 fr HBT HRB; replace HJ := Lib.hid (first_below HJ.out ((Below.refl _ W5).drew.trans hb) (by omega)); clear hb; have hbt : BoxT N t pa ca Y1 := HBX.out _ HJ.out.1.1.1.2.2; obtain ⟨t0, t1, t2⟩ := hbt.cells; have HBT := Lib.hid hbt; clear hbt; have n0 : Y1.cell? ⟨N + 1, 0, none⟩ = some (.int .i64 (tsize t : Int)) := (by rw [Lib.cell_of_heap HJ.out.1.1.1.1.1.1]; rfl); have s0 : Y1.cell? ⟨N + 1 + 1, 0, none⟩ = some (.slice sa q.length sc) := (by rw [show N + 1 + 1 = N + 2 from rfl, Lib.cell_of_heap HJ.out.1.1.1.1.1.2]; rfl); have p0 : Y1.cell? ⟨S, 0, none⟩ = some (.int .i64 1) := (by rw [Lib.cell_of_heap HJ.out.2.1]; rfl); have hr := (HJ.out.1.1.1.2.2.block w.heap.size (by omega)).trans hR3.out; have r0 : Y1.cell? ⟨w.heap.size, 0, none⟩ = some (.bool false) := (by rw [Lib.cell_of_heap hr]; rfl); have fr := Lib.frozen_of_heap hr 0; have HRB := Lib.hid hr; clear hr)
              | (refine ⟨trivial, ?_⟩; gi_at_call 10; refine (callsIn_wide.2 (HST.out _ HJ.out.1.1.2 (TextsAt.of_row HJ.out.1.1.1.1.2))).mono ?_; rintro e Y2 ⟨rfl, hb⟩; clear t0 t1 t2 n0 s0 p0 r0 fr HBT HRB; replace HJ := Lib.hid (first_below HJ.out hb (by omega)); clear hb; have hbt : BoxT N t pa ca Y2 := HBX.out _ HJ.out.1.1.1.2.2; obtain ⟨t0, t1, t2⟩ := hbt.cells; have HBT := Lib.hid hbt; clear hbt; have n0 : Y2.cell? ⟨N + 1, 0, none⟩ = some (.int .i64 (tsize t : Int)) := (by rw [Lib.cell_of_heap HJ.out.1.1.1.1.1.1]; rfl); have s0 : Y2.cell? ⟨N + 1 + 1, 0, none⟩ = some (.slice sa q.length sc) := (by rw [show N + 1 + 1 = N + 2 from rfl, Lib.cell_of_heap HJ.out.1.1.1.1.1.2]; rfl); have p0 : Y2.cell? ⟨S, 0, none⟩ = some (.int .i64 1) := (by rw [Lib.cell_of_heap HJ.out.2.1]; rfl); have hr := (HJ.out.1.1.1.2.2.block w.heap.size (by omega)).trans hR3.out; have r0 : Y2.cell? ⟨w.heap.size, 0, none⟩ = some (.bool false) := (by rw [Lib.cell_of_heap hr]; rfl); have fr := Lib.frozen_of_heap hr 0; have HRB := Lib.hid hr; clear hr)
              | (refine ⟨trivial, ?_⟩; gi_at_call 13; refine (callsIn_wide.2 (HZZ.out _ HBT.out)).mono ?_; rintro e Y3 ⟨rfl, hb⟩; clear t0 t1 t2 n0 s0 p0 r0 fr HBT HRB; replace HJ := Lib.hid (first_below HJ.out hb (by omega)); clear hb; have hbt : BoxT N t pa ca Y3 := HBX.out _ HJ.out.1.1.1.2.2; obtain ⟨t0, t1, t2⟩ := hbt.cells; have HBT := Lib.hid hbt; clear hbt; have n0 : Y3.cell? ⟨N + 1, 0, none⟩ = some (.int .i64 (tsize t : Int)) := (by rw [Lib.cell_of_heap HJ.out.1.1.1.1.1.1]; rfl); have s0 : Y3.cell? ⟨N + 1 + 1, 0, none⟩ = some (.slice sa q.length sc) := (by rw [show N + 1 + 1 = N + 2 from rfl, Lib.cell_of_heap HJ.out.1.1.1.1.1.2]; rfl); have p0 : Y3.cell? ⟨S, 0, none⟩ = some (.int .i64 1) := (by rw [Lib.cell_of_heap HJ.out.2.1]; rfl); have hr := (HJ.out.1.1.1.2.2.block w.heap.size (by omega)).trans hR3.out; have r0 : Y3.cell? ⟨w.heap.size, 0, none⟩ = some (.bool false) := (by rw [Lib.cell_of_heap hr]; rfl); have fr := Lib.frozen_of_heap hr 0; have HRB := Lib.hid hr; clear hr))
            all_goals refine NoPanic.normal ?_
            all_goals gi_wp2
            all_goals
              have zs := blk_set (o := 0) HRB.out (.bool true)
              have zb := (HB3.out.trans (HJ.out.1.1.1.2.2.mono (by omega))).setCell (p := ⟨w.heap.size, 0, none⟩) (Nat.le_refl _) (.bool true)
              have zd := (Below.heap_setCell Y3 ⟨w.heap.size, 0, none⟩ (.bool true) D (by show D ≠ w.heap.size; omega)).trans HJ.out.1.2
              have zd2 := (Below.heap_setCell Y3 ⟨w.heap.size, 0, none⟩ (.bool true) D2 (by show D2 ≠ w.heap.size; omega)).trans HJ.out.2.2
              obtain ⟨Z, hZ⟩ : ∃ Z, Y3.setCell ⟨w.heap.size, 0, none⟩ (.bool true) = Z := ⟨_, rfl⟩
              rw [hZ] at zs zb zd zd2 ⊢
              clear hZ
              have turn : ∀ r, some D2 = some r → ∃ o : Obj, Z.heap[r]? = some o ∧ o.isCells = false := fun r e => by cases e; exact ⟨_, zd2, rfl⟩
              have ys := block_kept zs (grownBy_putObj' Z D2 (.deferred none)) turn
              have yB := zb.trans (belowK_b (w := w) (Nat.le_refl _) Z D2 _ (.deferred none) (by omega) zd2 rfl rfl)
              have yd : (Z.putObj D2 (.deferred none)).heap[D]? = some (.deferred (some [])) := (World.putObj_heap_other (by omega)).trans zd
              have turn2 : ∀ r, some D = some r → ∃ o : Obj, (Z.putObj D2 (.deferred none)).heap[r]? = some o ∧ o.isCells = false := fun r e => by cases e; exact ⟨_, yd, rfl⟩
              have xs' := block_kept ys (grownBy_putObj' (Z.putObj D2 (.deferred none)) D (.deferred none)) turn2
              have xB := yB.trans (belowK_b (w := w) (Nat.le_refl _) (Z.putObj D2 (.deferred none)) D _ (.deferred none) (by omega) yd rfl rfl)
              have r1 : ((Z.putObj D2 (.deferred none)).putObj D (.deferred none)).cell? ⟨w.heap.size, 0, none⟩ = some (.bool true) := by rw [Lib.cell_of_heap xs']; rfl
              refine ⟨by simp, .inl ⟨_, _, rfl, run_takeDeferred zd2, ?_⟩⟩
              refine ⟨by simp, .inl ⟨_, _, rfl, run_takeDeferred yd, ?_⟩⟩
              exact ⟨.bool true, by simp [results, Try.results6, go_sem, r1], rfl, xB⟩
    case stop => exact fun D pre W hD hS h hK => h.elim
  · have hbI : ((100 : Int) < (n : Int)) := by omega
    go_enter Try.func6, Try.ntmps6
    have HB0 := Lib.hid (fun o => (Below.refl _ w).alloc (Nat.le_refl _) o)
    go_wp2_with (go_at_call 7; refine (first_any _).mono ?_; rintro e w1 ⟨rfl, h1⟩; have hR := (h1.block w.heap.size (by simp)).trans (alloc_new w _); have r0 : w1.cell? ⟨w.heap.size, 0, none⟩ = some (.bool false) := (by rw [Lib.cell_of_heap hR]; rfl); have fr := Lib.frozen_of_heap hR 0; have HR := Lib.hid hR; have HB1 := Lib.hid ((HB0.out _).trans (h1.mono (by simp))); clear h1 hR)
    exact bodyPost_ret (v := .bool true) (by have zs := blk_set (o := 0) HR.out (.bool true); have r1 : (w1.setCell ⟨w.heap.size, 0, none⟩ (.bool true)).cell? ⟨w.heap.size, 0, none⟩ = some (.bool true) := (by rw [Lib.cell_of_heap zs]; rfl); simp [results, Try.results6, go_sem, r1]) rfl ⟨rfl, HB1.out.setCell (p := ⟨w.heap.size, 0, none⟩) (Nat.le_refl _) _⟩
end Go.Proofs.Yteoelcefjjmjiaa
