/- What is made stands by itself: it may be made at whatever moment. -/
import Derived.Test.YtdcjkglhhmnjiaaGreatDoorSyK
namespace Go.Proofs.YtdcjkglhhmnjiaaGreatDoor.Sx
noncomputable section

theorem get_nil {α : Type} (n k : Nat) : Tr.get n (.nil : Tr α) k = none := rfl

/-- the last number of a block -/
def top : Nat := 1099511627775
theorem top_most : top + 1 = most := rfl

def isMake : Op → Bool
  | .alloc _ => true
  | .box .. => true
  | .makeMap .. => true
  | .buildSlice .. => true
  | .makeSlice .. => true
  | _ => false
def isDeed (P : Program) (op : Op) : Bool := isAct P op && !isMake op

/-- nothing of it is in the last block -/
def free : Nat → Value → Bool
  | 0, _ => false
  | n + 1, v => match v with
    | .pointer (some a) => !(Nat.beq a.block top)
    | .slice (some a) _ _ => !(Nat.beq a.block top)
    | .map (some r) => !(Nat.beq r top)
    | .func (.yield l) _ _ => !(Nat.beq l top)
    | .func _ xs ys => xs.toList.all (free n) && ys.toList.all (free n)
    | .iface _ v => free n v
    | .agg xs => xs.toList.all (free n)
    | .tuple xs => xs.toList.all (free n)
    | _ => true
def freeO : Obj → Bool
  | .cells c _ _ => c.toList.all (free 8)
  | .map es _ => es.toList.all fun e => free 8 e.val
  | .stringIter .. => true
  | _ => false

def Same (ρ σ : Rho) : Prop := ∀ b c, b ≠ top → ρ.at_ b = some c → σ.at_ b = some c ∧ σ.cap b = ρ.cap b ∧ σ.off b = ρ.off b

theorem not_beq {a b : Nat} (h : (!(Nat.beq a b)) = true) : a ≠ b := fun e => by subst e; simp at h

theorem AR_same {ρ σ : Rho} (hs : Same ρ σ) {a a' : Addr} (h : AR ρ a a') (hb : a.block ≠ top) : AR σ a a' ∧ σ.cap a.block = ρ.cap a.block := by
  cases h with | @mk b c o s e => 
    obtain ⟨h1, h2, h3⟩ := hs b c hb e
    exact ⟨by rw [← h3]; exact .mk h1, h2⟩

theorem VR_free {ρ σ : Rho} (hs : Same ρ σ) : ∀ (n : Nat) (v v' : Value), VR ρ v v' → free n v = true → VR σ v v' := by
  intro n
  induction n with
  | zero => intro v v' _ h; cases h
  | succ n ih =>
    have hall : ∀ {xs ys : Array Value}, (∀ (i : Nat) (x y : Value), xs[i]? = some x → ys[i]? = some y → VR ρ x y) → xs.toList.all (free n) = true → ∀ (i : Nat) (x y : Value), xs[i]? = some x → ys[i]? = some y → VR σ x y := by
      intro xs ys h hf i x y hx hy
      exact ih x y (h i x y hx hy) (List.all_eq_true.1 hf x (Array.mem_toList_iff.2 (Array.mem_of_getElem? hx)))
    intro v v' h hf
    cases h with
    | bool => exact .bool _
    | int => exact .int _ _
    | float => exact .float _ _
    | sym h => exact .sym h
    | string => exact .string _
    | pnil => exact .pnil
    | ptr h => exact .ptr (AR_same hs h (not_beq hf)).1
    | snil => exact .snil _ _
    | slice n c c' h hc =>
      obtain ⟨h1, h2⟩ := AR_same hs h (not_beq hf)
      exact .slice n c c' h1 (hc.imp id fun ⟨j, a, b, d, e⟩ => ⟨j, a, b, by rw [h2]; exact d, e⟩)
    | void a a' c' => exact .void a a' c'
    | mnil => exact .mnil
    | map h => exact .map (hs _ _ (not_beq hf) h).1
    | cnil => exact .cnil
    | func f hx hy h k =>
      simp only [free, Bool.and_eq_true] at hf
      exact .func f hx hy (hall h hf.1) (hall k hf.2)
    | yield h => exact .yield (hs _ _ (not_beq hf) h).1
    | nilFunc => exact .nilFunc
    | iface t h => exact .iface t (ih _ _ h hf)
    | nilIface => exact .nilIface
    | agg hz h => exact .agg hz (hall h hf)
    | tuple hz h => exact .tuple hz (hall h hf)

theorem OR_free {ρ σ : Rho} (hs : Same ρ σ) {o o' : Obj} (h : OR ρ o o') (hf : freeO o = true) : OR σ o o' := by
  cases h with
  | cells e f f' h1 h2 h =>
    exact .cells e f f' h1 h2 fun i x y hx hy => VR_free hs 8 x y (h i x y hx hy) (List.all_eq_true.1 hf x (Array.mem_toList_iff.2 (Array.mem_of_getElem? hx)))
  | map n h1 h =>
    exact .map n h1 fun i x y hx hy => ⟨(h i x y hx hy).key, VR_free hs 8 _ _ (h i x y hx hy).val (List.all_eq_true.1 hf x (Array.mem_toList_iff.2 (Array.mem_of_getElem? hx))), (h i x y hx hy).born⟩
  | stringIter s n => exact .stringIter s n
  | loop => cases hf

/-- the value of what was made in the last block, with another number -/
def namedV (id : Nat) : Value → Option Value
  | .pointer (some a) => bif Nat.beq a.block top && (Nat.beq a.off 0 && a.spot.isNone) then some (.pointer (some ⟨id, 0, none⟩)) else none
  | .slice (some a) n c => bif Nat.beq a.block top && (Nat.beq a.off 0 && a.spot.isNone) then some (.slice (some ⟨id, 0, none⟩) n c) else none
  | .map (some r) => bif Nat.beq r top then some (.map (some id)) else none
  | _ => none

section
variable {P : Program}

theorem addr_top {a : Addr} (h : (Nat.beq a.block top && (Nat.beq a.off 0 && a.spot.isNone)) = true) : a = ⟨top, 0, none⟩ := by
  simp only [Bool.and_eq_true] at h
  obtain ⟨h1, h2, h3⟩ := h
  obtain ⟨b, o, s⟩ := a
  cases s with
  | some _ => cases h3
  | none => rw [show b = top from Nat.eq_of_beq_eq_true h1, show o = 0 from Nat.eq_of_beq_eq_true h2]

/-- a block is made by itself, and given a number that was kept for it -/
theorem ST.make {ρ0 ρ ρ1 : Rho} {s0 s s1 : St} {w0 w w1 : World} {id : Nat} {ob : Obj} (h : ST P ρ0 s0 w0 ρ s w) (hm : s.next ≤ top) (hid : id < s.next) (hid0 : s0.next ≤ id) (hro : s.ro ≤ id) (hf : ρ.at_ id = none)
    (hS : ST P ρ ⟨top, s.lo, s.ro, .nil⟩ w ρ1 s1 w1) (hn1 : s1.next ≤ most) (ho : s1.obj top = some ob) (hfr : freeO ob = true) :
    ∃ ρ2, ST P ρ0 s0 w0 ρ2 (s.put id ob) w1 ∧ ρ.le ρ2 ∧ (∀ b, b ≠ id → ρ2.at_ b = ρ.at_ b) ∧ ∀ v v1 v', VR ρ1 v1 v' → namedV id v1 = some v → VR ρ2 v v' := by
  have hz := h.rz
  obtain ⟨c, o', hc, hw, hO, hR, hoff⟩ := hS.rz.obj top ob ho
  have hnl : ∀ b, (St.mk top s.lo s.ro .nil).obj b = none := fun b => get_nil _ _
  have hcs : w.heap.size ≤ c := by
    refine Nat.le_of_not_lt fun hlt => ?_
    obtain ⟨b0, hb, _⟩ := hS.own top c (by simp [ho]) hc hlt
    rw [hnl] at hb; cases hb
  have hk : ∀ q, q < w.heap.size → w1.heap[q]? = w.heap[q]? := fun q hq => hS.kept q hq fun b hb => by rw [hnl] at hb; cases hb
  have htm := top_most
  have hlt : id < most := by omega
  have hcl : c < w1.heap.size := (Array.getElem?_eq_some_iff.1 hw).1
  have h0 := h.size
  have hle : ρ.le ⟨fun b => if b = id then some c else ρ.at_ b, fun b => if b = id then 0 else ρ.off b, fun b => if b = id then ρ1.cap top else ρ.cap b, fun b => by (split <;> first | exact ρ1.small top | exact ρ.small b)⟩ := fun b d e => by
    by_cases hb : b = id
    · subst hb; rw [hf] at e; cases e
    · simp [hb, e]
  have hs : Same ρ1 ⟨fun b => if b = id then some c else ρ.at_ b, fun b => if b = id then 0 else ρ.off b, fun b => if b = id then ρ1.cap top else ρ.cap b, fun b => by (split <;> first | exact ρ1.small top | exact ρ.small b)⟩ := fun b d hb e => by
    have hbt : b < top := by
      refine Nat.lt_of_le_of_ne (Nat.le_of_not_lt fun hgt => ?_) hb
      rw [hS.rz.fresh b (by omega)] at e; cases e
    have e2 : ρ.at_ b = some d := by rw [← hS.old b hbt]; exact e
    obtain ⟨_, k1, k2⟩ := hS.le b d e2
    have hbi : b ≠ id := fun hb => by subst hb; rw [hf] at e2; cases e2
    simp [hbi, e2, k1, k2]
  refine ⟨_, ⟨h.le.trans hle, ⟨fun j oj hj => ?_, fun j j' cj hj hj' e e' => ?_, fun j hj => ?_, fun j cj e => ?_, hz.roNext, fun j cj q1 q2 e => ?_, fun j j' cj q1 q2 q3 q4 q5 e e' => ?_⟩, fun j cj hj e hjl => ?_, fun q hq hn => ?_, fun j cj hj hl e => ?_, h.ro, Nat.le_trans h0 hS.size, hS.os.trans h.os, hS.tape.trans h.tape, hS.output.trans h.output, h.grow, fun b hb => ?_, h.lo⟩, hle, fun b hb => by simp [hb], fun v v1 v' hv hn => ?_⟩
  · rw [obj_put s id ob j hlt] at hj
    by_cases hji : j = id
    · subst hji; rw [if_pos rfl] at hj; cases hj
      exact ⟨c, o', by simp, hw, OR_free hs hO hfr, by simpa using hR, by simp⟩
    · rw [if_neg hji] at hj
      obtain ⟨cj, oj', h1, h2, h3, h4, h5⟩ := hz.obj j oj hj
      exact ⟨cj, oj', (hle _ _ h1).1, by rw [hk cj (hz.lt _ _ h1)]; exact h2, h3.mono hle, by simpa [hji] using h4, by simpa [hji] using h5⟩
  · rw [obj_put s id ob _ hlt] at hj hj'
    by_cases a : j = id <;> by_cases b : j' = id
    · rw [a, b]
    · rw [if_neg b] at hj'
      simp [a] at e; simp [b] at e'
      have := hz.lt j' cj e'; omega
    · rw [if_neg a] at hj
      simp [a] at e; simp [b] at e'
      have := hz.lt j cj e; omega
    · rw [if_neg a] at hj; rw [if_neg b] at hj'
      simp [a] at e; simp [b] at e'
      exact hz.inj j j' cj hj hj' e e'
  · have hj' : s.next ≤ j := hj
    have : j ≠ id := by omega
    simp [this]; exact hz.fresh j hj'
  · by_cases a : j = id
    · simp [a] at e; omega
    · simp [a] at e; have := hz.lt j cj e; have := hS.size; omega
  · have q2' : j < s.ro := q2
    have a : j ≠ id := by omega
    simp [a] at e
    obtain ⟨⟨cs, e1, h3⟩, h4⟩ := hz.sen j cj q1 q2 e
    have hcj := hz.lt _ _ e
    refine ⟨⟨cs, e1, by rw [hk cj hcj]; exact h3⟩, fun q hq hl eq => ?_⟩
    rw [obj_put s id ob q hlt] at hl
    by_cases b : q = id
    · simp [b] at eq; omega
    · rw [if_neg b] at hl
      simp [b] at eq
      exact h4 q hq hl eq
  · have p2 : j < s.ro := q2
    have p4 : j' < s.ro := q4
    have n1 : j ≠ id := by omega
    have n2 : j' ≠ id := by omega
    simp [n1] at e
    simp [n2] at e'
    have := hz.apart j j' cj q1 q2 q3 q4 q5 e e'
    simpa [n1, n2] using this
  · rw [obj_put s id ob j hlt] at hj
    by_cases a : j = id
    · simp [a] at e; omega
    · rw [if_neg a] at hj
      simp [a] at e
      exact h.own j cj hj e hjl
  · rw [hk q (by omega)]; exact h.kept q hq hn
  · obtain ⟨k1, k2⟩ := h.fixed j cj hj hl e
    have : j < s.ro := by rw [h.ro]; exact hj
    refine ⟨by rw [obj_put s id ob j hlt, if_neg (by omega)]; exact k1, ?_⟩
    rw [hk cj (hz.lt _ _ (h.le _ _ e).1)]; exact k2
  · have : b ≠ id := by omega
    simp [this]; exact h.old b hb
  · unfold namedV at hn
    split at hn
    · cases hc' : (Nat.beq _ top && (Nat.beq _ 0 && _)) with
      | false => rw [hc'] at hn; cases hn
      | true =>
        rw [hc'] at hn
        cases hn
        rw [addr_top hc'] at hv
        cases hv with
        | ptr hA =>
          cases hA with
          | mk hb =>
            rw [hc] at hb; cases hb
            rw [hoff]
            exact .ptr (by have := @AR.mk ⟨fun b => if b = id then some c else ρ.at_ b, fun b => if b = id then 0 else ρ.off b, fun b => if b = id then ρ1.cap top else ρ.cap b, fun b => by (split <;> first | exact ρ1.small top | exact ρ.small b)⟩ id c 0 none (by simp); simpa using this)
    · cases hc' : (Nat.beq _ top && (Nat.beq _ 0 && _)) with
      | false => rw [hc'] at hn; cases hn
      | true =>
        rw [hc'] at hn
        cases hn
        rw [addr_top hc'] at hv
        cases hv with
        | void _ a' c' => exact .void _ a' c'
        | slice n k k' hA hcap =>
          cases hA with
          | mk hb =>
            rw [hc] at hb; cases hb
            rw [hoff]
            refine .slice _ _ _ (by have := @AR.mk ⟨fun b => if b = id then some c else ρ.at_ b, fun b => if b = id then 0 else ρ.off b, fun b => if b = id then ρ1.cap top else ρ.cap b, fun b => by (split <;> first | exact ρ1.small top | exact ρ.small b)⟩ id c 0 none (by simp); simpa using this) ?_
            simpa using hcap
    · cases hc' : Nat.beq _ top with
      | false => rw [hc'] at hn; cases hn
      | true =>
        rw [hc'] at hn
        cases hn
        rw [Nat.eq_of_beq_eq_true hc'] at hv
        cases hv with
        | map hb =>
          rw [hc] at hb; cases hb
          exact .map (by simp)
    · cases hn

/-- what one part of the memory comes to, beside the rest of it -/
theorem ST.frame {ρ ρ2 : Rho} {u m s2 u2 : St} {w w2 : World} (hz : RZ P ρ u w) (hM : ∀ b o, m.obj b = some o → u.obj b = some o) (hn : m.next = u.next ∧ m.lo = u.lo ∧ m.ro = u.ro) (hro : ∀ b, b < u.ro → m.obj b = u.obj b)
    (hS : ST P ρ m w ρ2 s2 w2) (hn2 : u2.next = s2.next ∧ u2.lo = s2.lo ∧ u2.ro = s2.ro) (hf : ∀ b o, u2.obj b = some o → s2.obj b = some o ∨ (u.obj b = some o ∧ m.obj b = none)) (hro2 : ∀ b, b < u.ro → u2.obj b = s2.obj b) :
    ST P ρ u w ρ2 u2 w2 := by
  have live : ∀ b, (m.obj b).isSome → (u.obj b).isSome := fun b hb => by
    obtain ⟨o, ho⟩ := Option.isSome_iff_exists.1 hb
    simp [hM b o ho]
  have far : ∀ b o c, u.obj b = some o → m.obj b = none → ρ.at_ b = some c → ∀ j, (m.obj j).isSome → ρ.at_ j ≠ some c := fun b o c h1 h2 h3 j hj e => by
    have := hz.inj j b c (live j hj) (by simp [h1]) e h3
    subst this; rw [h2] at hj; cases hj
  have far2 : ∀ b o c, u.obj b = some o → m.obj b = none → ρ.at_ b = some c → ∀ j, (s2.obj j).isSome → ρ2.at_ j ≠ some c := fun b o c h1 h2 h3 j hj e => by
    obtain ⟨b0, k1, k2⟩ := hS.own j c hj e (hz.lt _ _ h3)
    exact far b o c h1 h2 h3 b0 k1 k2
  obtain ⟨n1, n2, n3⟩ := hn
  obtain ⟨m1, m2, m3⟩ := hn2
  have hsro : s2.ro = u.ro := hS.ro.trans n3
  have hslo : s2.lo = u.lo := hS.lo.trans n2
  refine ⟨hS.le, ⟨fun j oj hj => ?_, fun j j' cj hj hj' e e' => ?_, fun j hj => hS.rz.fresh j (m1 ▸ hj), hS.rz.lt, by rw [m3, m1]; exact hS.rz.roNext, fun j cj q1 q2 e => ?_, fun j j' cj q1 q2 q3 q4 => hS.rz.apart j j' cj (m2 ▸ q1) (m3 ▸ q2) (m2 ▸ q3) (m3 ▸ q4)⟩, fun j cj hj e hjl => ?_, fun q hq hnn => hS.kept q hq fun b hb => hnn b (live b hb), fun j cj hj hl e => ?_, by rw [m3]; exact hsro, hS.size, hS.os, hS.tape, hS.output, by rw [m1, ← n1]; exact hS.grow, fun b hb => hS.old b (n1 ▸ hb), m2.trans hslo⟩
  · rcases hf j oj hj with k | ⟨k1, k2⟩
    · exact hS.rz.obj j oj k
    · obtain ⟨c, o', h1, h2, h3, h4, h5⟩ := hz.obj j oj k1
      obtain ⟨l1, l2, l3⟩ := hS.le _ _ h1
      exact ⟨c, o', l1, (hS.kept c (hz.lt _ _ h1) (far j oj c k1 k2 h1)).trans h2, h3.mono hS.le, by rw [l2]; exact h4, l3.trans h5⟩
  · obtain ⟨o1, k⟩ := Option.isSome_iff_exists.1 hj
    obtain ⟨o2, k'⟩ := Option.isSome_iff_exists.1 hj'
    have dt : ∀ b o, u.obj b = some o → ρ2.at_ b = some cj → ρ.at_ b = some cj := fun b o h1 h2 => by
      obtain ⟨c, _, h3, _⟩ := hz.obj b o h1
      have := (hS.le _ _ h3).1
      rw [h2] at this; cases this; exact h3
    rcases hf j o1 k with a | ⟨a1, a2⟩ <;> rcases hf j' o2 k' with b | ⟨b1, b2⟩
    · exact hS.rz.inj j j' cj (by simp [a]) (by simp [b]) e e'
    · exact absurd e (far2 j' o2 cj b1 b2 (dt j' o2 b1 e') j (by simp [a]))
    · exact absurd e' (far2 j o1 cj a1 a2 (dt j o1 a1 e) j' (by simp [b]))
    · exact hz.inj j j' cj (by simp [a1]) (by simp [b1]) (dt j o1 a1 e) (dt j' o2 b1 e')
  · obtain ⟨h3, h4⟩ := hS.rz.sen j cj (m2 ▸ q1) (m3 ▸ q2) e
    refine ⟨h3, fun q hq hl eq => ?_⟩
    obtain ⟨o, ho⟩ := Option.isSome_iff_exists.1 hl
    rcases hf q o ho with a | ⟨a1, a2⟩
    · exact h4 q (m3 ▸ hq) (by simp [a]) eq
    · have hj2 : j < u.ro := by rw [← hsro, ← m3]; exact q2
      have hju : ρ.at_ j = some cj := by rw [← hS.old j (by have := hz.roNext; omega)]; exact e
      obtain ⟨c, _, h5, _⟩ := hz.obj q o a1
      have := (hS.le _ _ h5).1
      rw [eq] at this; cases this
      exact (hz.sen j cj (by rw [← hslo, ← m2]; exact q1) hj2 hju).2 q (by rw [← hsro, ← m3]; exact hq) (by simp [a1]) h5
  · obtain ⟨o, ho⟩ := Option.isSome_iff_exists.1 hj
    rcases hf j o ho with a | ⟨a1, a2⟩
    · obtain ⟨b0, k1, k2⟩ := hS.own j cj (by simp [a]) e hjl
      exact ⟨b0, live b0 k1, k2⟩
    · obtain ⟨c, _, h5, _⟩ := hz.obj j o a1
      have := (hS.le _ _ h5).1
      rw [e] at this; cases this
      exact ⟨j, by simp [a1], h5⟩
  · obtain ⟨k1, k2⟩ := hS.fixed j cj (by rw [n3]; exact hj) (by rw [hro j hj]; exact hl) e
    exact ⟨by rw [hro2 j hj, k1, hro j hj], k2⟩

/-- numbers are kept for blocks to come -/
theorem ST.reserve {ρ : Rho} {s : St} {w : World} (hz : RZ P ρ s w) (k : Nat) : ST P ρ s w ρ ⟨s.next + k, s.lo, s.ro, s.heap⟩ w :=
  ⟨.refl _, ⟨hz.obj, hz.inj, fun b hb => hz.fresh b (Nat.le_trans (Nat.le_add_right _ _) hb), hz.lt, Nat.le_trans hz.roNext (Nat.le_add_right _ _), hz.sen, hz.apart⟩, fun b _ hb e _ => ⟨b, hb, e⟩, fun _ _ _ => rfl, fun _ _ _ _ _ => ⟨rfl, rfl⟩, rfl, Nat.le_refl _, rfl, rfl, rfl, Nat.le_add_right _ _, fun _ _ => rfl, rfl⟩
end
end
end Go.Proofs.YtdcjkglhhmnjiaaGreatDoor.Sx
