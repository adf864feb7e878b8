/- TypesFuns: the types that are made are small; what its loop keeps. -/
import Derived.Test.YteoelcefjjmjiaaFunsA
namespace Go.Proofs.Yteoelcefjjmjiaa
open Go.RowKit

theorem br_ge (b : Bool) (s : List UInt8) : s.length ≤ (T.br b s).length := by
  unfold T.br; split <;> simp; omega
theorem vnames_len {x : List UInt8} (h : x ∈ T.vnames) : 1 ≤ x.length := by
  simp [T.vnames] at h; rcases h with rfl | rfl | rfl <;> simp
theorem cnames_len {x : List UInt8} (h : x ∈ T.cnames) : 1 ≤ x.length := by
  simp [T.cnames] at h; rcases h with rfl | rfl | rfl | rfl <;> simp
mutual
theorem tsize_text (t : T) (h : T.Good t) : tsize t ≤ (T.text t).length := by
  cases t with
  | var n => simp only [T.Good] at h; simpa [tsize, T.text] using vnames_len h
  | con n l =>
    simp only [T.Good] at h
    have h1 := cnames_len h.1
    have h2 := tsizes_texts l h.2
    simp only [tsize, T.text, List.length_append]; omega
  | fn a b =>
    simp only [T.Good] at h
    have h1 := tsize_text a h.1
    have h2 := tsize_text b h.2
    have h3 := br_ge a.arrow (T.text a)
    simp only [tsize, T.text, List.length_append, List.length_cons, List.length_nil]; omega
  | all n a => simp only [T.Good] at h
theorem tsizes_texts (l : List T) (h : T.Goods l) : tsizes l ≤ (T.texts l).length := by
  cases l with
  | nil => simp [tsizes]
  | cons a r =>
    simp only [T.Goods] at h
    have h1 := tsize_text a h.1
    have h2 := tsizes_texts r h.2
    have h3 := br_ge a.wide (T.text a)
    simp only [tsizes, T.texts, List.length_append, List.length_cons, List.length_nil]; omega
end
theorem tsizes_snoc (l : List T) (x : T) : tsizes (l ++ [x]) = tsizes l + tsize x := by
  induction l with
  | nil => simp [tsizes]
  | cons a l ih => rw [List.cons_append, tsizes, tsizes, ih]; omega
/-- What the loop keeps. -/
def FnI (w : World) (p : Nat) (a : Option Addr) (n c nn : Nat) (v : Value) (xs : List Tl) (X : World) : Prop :=
  (xs.length ≤ nn + 1 ∧ (xs.length = nn + 1 → ∃ ys y, xs = ys ++ [y] ∧ isFnT y.1 = false) ∧ tsizes (xs.map (·.1)) ≤ 64 * xs.length) ∧
  (X.ownsRow (p + 1) 29 3 v xs.length (cellsOf xs) ∧ ∀ y ∈ xs, TyIn (fun k => p + 1 ≤ k ∧ some k ≠ v.ownBlock) X y.1 (.slice y.2.1 y.1.kids.length y.2.2)) ∧
  (∃ k, SeqAt w.heap.size p a n c k X ∧ k ≤ 8 * xs.length) ∧ Below w.heap.size w X ∧ p + 1 ≤ X.heap.size
theorem cell_new3g {w : World} {g : Nat} (hg : g = w.heap.size) (x y z : Value) (t : TypeId) : ∀ j v, [x, y, z][j]? = some v → (w.alloc (.cells #[x, y, z] t)).cell? ((⟨g, 0, none⟩ : Addr).add j) = some v := by
  subst hg; exact cell_new3 w x y z t
theorem isFnT_kind {t : T} (h : (t.kind == 3) = false) : isFnT t = false := by
  cases t with
  | fn a b => simp [T.kind] at h
  | _ => rfl
/-- Within a round: the row, and the type that comes next. -/
def FnX (w : World) (p : Nat) (a : Option Addr) (n c : Nat) (v : Value) (xs : List Tl) (x : Tl) (X : World) : Prop :=
  (X.ownsRow (p + 1) 29 3 v xs.length (cellsOf xs) ∧ ∀ y ∈ xs, TyIn (fun k => p + 1 ≤ k ∧ some k ≠ v.ownBlock) X y.1 (.slice y.2.1 y.1.kids.length y.2.2)) ∧
  TyIn (fun k => p + 1 ≤ k ∧ some k ≠ v.ownBlock) X x.1 (.slice x.2.1 x.1.kids.length x.2.2) ∧
  (∃ k, SeqAt w.heap.size p a n c k X ∧ k ≤ 8 * (xs.length + 1)) ∧ Below w.heap.size w X ∧ p + 1 ≤ X.heap.size
theorem FnI.below {w : World} {p : Nat} {a : Option Addr} {n c nn : Nat} {v : Value} {xs : List Tl} {X Y : World} (h : FnI w p a n c nn v xs X) (hb : Below X.heap.size X Y) : FnI w p a n c nn v xs Y := by
  obtain ⟨h1, ⟨h2, h3⟩, ⟨k, h4, h5⟩, h6, h7⟩ := h
  exact ⟨h1, ⟨row_kept h2 (KeepT.of_below hb), fun y hy => (h3 y hy).keep fun k cs fz _ hh => KeepT.of_below hb k cs fz hh⟩, ⟨k, h4.below hb, h5⟩, h6.trans (hb.mono h6.size), Nat.le_trans h7 hb.size⟩
theorem FnX.below {w : World} {p : Nat} {a : Option Addr} {n c : Nat} {v : Value} {xs : List Tl} {x : Tl} {X Y : World} (h : FnX w p a n c v xs x X) (hb : Below X.heap.size X Y) : FnX w p a n c v xs x Y := by
  obtain ⟨⟨h2, h3⟩, h3', ⟨k, h4, h5⟩, h6, h7⟩ := h
  exact ⟨⟨row_kept h2 (KeepT.of_below hb), fun y hy => (h3 y hy).keep fun k cs fz _ hh => KeepT.of_below hb k cs fz hh⟩, h3'.keep fun k cs fz _ hh => KeepT.of_below hb k cs fz hh, ⟨k, h4.below hb, h5⟩, h6.trans (hb.mono h6.size), Nat.le_trans h7 hb.size⟩
theorem FnX.alloc {w : World} {p : Nat} {a : Option Addr} {n c : Nat} {v : Value} {xs : List Tl} {x : Tl} {X : World} (h : FnX w p a n c v xs x X) (o : Obj) : FnX w p a n c v xs x (X.alloc o) := h.below ((Below.refl _ X).alloc (Nat.le_refl _) o)
/-- What the maker leaves. -/
theorem FnI.made {w : World} {p : Nat} {a : Option Addr} {n c nn k k2 : Nat} {v : Value} {xs : List Tl} {X Y : World} {t : T} {a2 : Option Addr} {c2 : Nat} (h : FnI w p a n c nn v xs X) (hs : SeqAt w.heap.size p a n c k X) (hk : k ≤ 8 * xs.length)
    (ht : TyIn (fun k => X.heap.size ≤ k) Y t (.slice a2 t.kids.length c2)) (hk2 : k2 + 1 ≤ k + 8) (hs2 : SeqAt w.heap.size p a n c k2 Y) (hf : MkFr w.heap.size p X Y) : FnX w p a n c v xs (t, a2, c2) Y := by
  obtain ⟨h1, ⟨h2, h3⟩, _, h6, h7⟩ := h
  have hkt := KeepT.of_mk hf hs
  exact ⟨⟨row_kept h2 hkt, fun y hy => (h3 y hy).keep fun k cs fz _ hh => hkt k cs fz hh⟩, ht.mono fun k hk => ⟨by have h9 : X.heap.size ≤ k := hk; omega, fun e => by have h9 : X.heap.size ≤ k := hk; have := (h2.lt k e.symm).2; omega⟩, ⟨k2, hs2, by omega⟩, h6.trans hf.1, Nat.le_trans h7 hf.1.size⟩
/-- The type is laid in a box, and another in its place. -/
theorem FnX.con {w : World} {p : Nat} {a : Option Addr} {n c : Nat} {v : Value} {xs : List Tl} {x : Tl} {X V : World} {o o' : Obj} {t : T} {a4 : Option Addr} {c4 : Nat} (h : FnX w p a n c v xs x X) (hb : Below ((X.alloc o).alloc o').heap.size ((X.alloc o).alloc o') V)
    (ht : TyIn (fun k => ((X.alloc o).alloc o').heap.size < k) V t (.slice a4 t.kids.length c4)) (v0 v1 v2 : Value) : FnX w p a n c v xs (t, a4, c4) (((V.setCell ⟨X.heap.size, 0, none⟩ v0).setCell ⟨X.heap.size, 1, none⟩ v1).setCell ⟨X.heap.size, 2, none⟩ v2) := by
  have hbx : Below X.heap.size X ((X.alloc o).alloc o') := ((Below.refl _ X).alloc (Nat.le_refl _) o).alloc (by simp) o'
  have hbv := hbx.trans (hb.mono hbx.size)
  have hot : ∀ k, k ≠ X.heap.size → (((V.setCell ⟨X.heap.size, 0, none⟩ v0).setCell ⟨X.heap.size, 1, none⟩ v1).setCell ⟨X.heap.size, 2, none⟩ v2).heap[k]? = V.heap[k]? := fun k hk => heap_set3 _ _ _ hk
  have hbw : Below X.heap.size X (((V.setCell ⟨X.heap.size, 0, none⟩ v0).setCell ⟨X.heap.size, 1, none⟩ v1).setCell ⟨X.heap.size, 2, none⟩ v2) := below_set3 hbv (Nat.le_refl _) _ _ _
  obtain ⟨h1, h2, h3, h4, h5⟩ := h.below hbw
  refine ⟨h1, ?_, h3, h4, h5⟩
  have hsz : ((X.alloc o).alloc o').heap.size = X.heap.size + 2 := by simp
  refine (ht.keep fun k _ _ hk hh => (hot k (by have h9 : ((X.alloc o).alloc o').heap.size < k := hk; omega)).trans hh).mono fun k hk => ?_
  have h9 : ((X.alloc o).alloc o').heap.size < k := hk
  exact ⟨by have := h.2.2.2.2; omega, fun e => by have := (h.1.1.lt k e.symm).2; omega⟩
/-- The row, grown. -/
theorem FnX.next {w : World} {p : Nat} {a : Option Addr} {n c nn g cap : Nat} {v : Value} {xs : List Tl} {x : Tl} {X V : World} {o : Obj} (h : FnX w p a n c v xs x X) (hlt : xs.length ≤ nn) (hsz : tsizes (xs.map (·.1)) ≤ 64 * xs.length) (hx : tsize x.1 ≤ 64) (hl : xs.length = nn → isFnT x.1 = false)
    (ho : V.ownsRow (p + 1) 29 3 (.slice (some ⟨g, 0, none⟩) (xs.length + 1) cap) (xs.length + 1) (cellsOf xs ++ [.int .i64 x.1.kind, .string x.1.name, .slice x.2.1 x.1.kids.length x.2.2]))
    (hg : (X.alloc o).grownBy V v.ownBlock) (hat : v.ownBlock = some g ∨ g = (X.alloc o).heap.size) : FnI w p a n c nn (.slice (some ⟨g, 0, none⟩) (xs ++ [x]).length cap) (xs ++ [x]) V := by
  obtain ⟨⟨h1, h2⟩, h3, ⟨k, h4, h5⟩, h6, h7⟩ := h
  have hl1 : (xs ++ [x]).length = xs.length + 1 := by simp
  have hown : ∀ j, v.ownBlock = some j → p + 1 ≤ j := fun j hj => (h1.lt j hj).1
  have hpX := h4.lt
  have hVs := hg.size
  simp at hVs
  have hbV : Below w.heap.size w V := (h6.alloc h6.size o).grown hg (by have := h6.size; simp; omega) (fun j hj => by have := hown j hj; have := h4.1.1; omega)
  refine ⟨⟨by omega, fun e => ⟨xs, x, rfl, hl (by omega)⟩, ?_⟩, ⟨?_, ?_⟩, ⟨k, ?_, by omega⟩, hbV, by omega⟩
  · rw [List.map_append, List.map_cons, List.map_nil, tsizes_snoc, hl1]; omega
  · rw [cellsOf_snoc, hl1]; exact ho
  · rw [hl1]
    exact beside_next h2 h3 hg hat rfl
  · refine ⟨⟨h4.1.1, ?_⟩, h4.2.keep (((Below.refl w.heap.size X).alloc h6.size o).grown hg (by have := h6.size; simp; omega) (fun j hj => by have := hown j hj; have := h4.1.1; omega))⟩
    exact (hg.block p (by simp; omega) (fun e => by have := hown p e.symm; omega)).trans ((Below.heap_alloc X o p hpX).trans h4.1.2)
abbrev boxO (t : T) (a : Option Addr) (c : Nat) : Obj := .cells #[.int .i64 t.kind, .string t.name, .slice a t.kids.length c] 29
theorem ft_state {w wr w2 w3 w4 : World} {g e : Nat} {l : List T} {tx tf : T} {xa fa za ua pa : Option Addr} {xc fc zc uc pc : Nat} (h1 : TysAt wr (.slice (some ⟨g, 0, none⟩) (l.length + 1) e) (l ++ [tx])) (h2 : LastC g l.length tx xa xc wr) (hw : Below w.heap.size w wr)
    (hb2 : Below wr.heap.size wr w2) (hf : TysAt w2 (.slice fa tf.kids.length fc) tf.kids) (hb3 : Below (w2.alloc (boxO tf fa fc)).heap.size (w2.alloc (boxO tf fa fc)) w3) (t1 : TysAt w3 (.slice pa l.length pc) l) (t2 : TysAt w3 (.slice za tx.kids.length zc) tx.kids)
    (hb4 : Below (w3.alloc (boxO tx za zc)).heap.size (w3.alloc (boxO tx za zc)) w4) :
    FT w g w2.heap.size w3.heap.size w4.heap.size l tx tf e xa fa za xc fc zc ua uc pa pc (w4.alloc (.cells #[.int .i64 2, .string ⟨#[85, 110, 105, 116]⟩, .slice ua 0 uc] 29)).drew := by
  have b12 : Below wr.heap.size wr (w2.alloc (boxO tf fa fc)) := hb2.alloc hb2.size _
  have b13 := b12.trans (hb3.mono b12.size)
  have b14 := (b13.alloc b13.size (boxO tx za zc)).trans (hb4.mono (b13.alloc b13.size _).size)
  have b15 := (b14.alloc b14.size (.cells #[.int .i64 2, .string ⟨#[85, 110, 105, 116]⟩, .slice ua 0 uc] 29)).drew
  have b34 : Below w3.heap.size w3 w4 := ((Below.refl _ w3).alloc (Nat.le_refl _) (boxO tx za zc)).trans (hb4.mono (by simp))
  have b35 := (b34.alloc b34.size (.cells #[.int .i64 2, .string ⟨#[85, 110, 105, 116]⟩, .slice ua 0 uc] 29)).drew
  exact ⟨⟨h1.keep (KeepT.of_below b15), h2.below b15⟩, ⟨((((BoxT.new hf).below hb3).alloc _).below hb4 |>.alloc _).drew, ((BoxT.new t2).below hb4 |>.alloc _).drew⟩, ⟨alloc_new w4 _, t1.keep (KeepT.of_below b35)⟩, hw.trans (b15.mono hw.size)⟩
end Go.Proofs.Yteoelcefjjmjiaa
