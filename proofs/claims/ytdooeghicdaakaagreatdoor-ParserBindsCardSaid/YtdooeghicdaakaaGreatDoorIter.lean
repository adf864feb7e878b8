import Derived.Test.YtdooeghicdaakaaGreatDoorAll
namespace Go.Proofs.YtdooeghicdaakaaGreatDoor
open Go.RowKit
attribute [local go_sem] Oper.semAt_some

/-- What the rounds are handed: a word; or an error at a place, which lies in block b. -/
abbrev Item := Sum Tok (Nat × Nat)
def tokVal (s : ByteArray) (t : Tok) : Value := tokV t.kind t.pos ((s.extract t.pos s.size).extract 0 t.len) t.num
def errVal (b : Nat) : Value := .iface 88 (.pointer (some ⟨b, 0, none⟩))
def encI (s : ByteArray) : Item → Array Value
  | .inl t => #[tokVal s t, .nilIface]
  | .inr r => #[tokV 0 0 ⟨#[]⟩ 0, errVal r.2]
/-- The error's block. -/
def AtBlock (W : World) (b p : Nat) (eL : Value) : Prop := W.heap[b]? = some (.cells #[.int .i64 p, eL] 90 (0, 0))
def ExI (eL : Value) : Item → World → Prop
  | .inl _, _ => True
  | .inr r, W => AtBlock W r.2 r.1 eL
def SAll (ts : List Tok) (er : Option Nat) (xs : List Item) : Prop :=
  (er = none ∧ xs = ts.map .inl) ∨ ∃ p b, er = some p ∧ xs = ts.map .inl ++ [.inr (p, b)]
def SpAll (ts : List Tok) (er : Option Nat) (xs : List Item) : Prop :=
  (∃ q, q <+: ts ∧ xs = q.map .inl) ∨ ∃ p b, er = some p ∧ xs = ts.map .inl ++ [.inr (p, b)]
def errL (a : Addr) : Value := .iface 133 (.pointer (some a))

theorem at_new (w : World) (o : Obj) (p : Nat) (a : Addr) : ExI (errL a) (.inr (p, w.heap.size + 1)) ((w.alloc o).alloc (.cells #[.int .i64 p, .iface 133 (.pointer (some a))] 90)) := by
  have := World.alloc_heap_new (w.alloc o) (.cells #[.int .i64 p, .iface 133 (.pointer (some a))] 90)
  rwa [World.size_alloc] at this

set_option maxRecDepth 100000 in
set_option maxHeartbeats 2000000 in
theorem all1_told (n : Nat) (hn : 1 ≤ n) (s : ByteArray) (hs : s.size ≤ 20000) (Bn : Nat) (aL : Addr) (ts : List Tok) (er : Option Nat) (hr : Runs s.data.toList (skipTo s.data.toList 0) ts er) (w : World)
    (hBn : w.cell? ⟨Bn, 0, none⟩ = some (.string s)) (hE : w.cell? ⟨2, 0, none⟩ = some (errL aL)) :
    SeqTold n Tryz.prog 43 #[.pointer (some ⟨Bn, 0, none⟩)] (encI s) (ExI (errL aL)) (fun k => k = Bn ∨ k = 2) (SAll ts er) (SpAll ts er) (s.size + 1) w := by
  intro l J Jx W hW hY h0
  have e1 := Lib.hid (length_data s)
  have hs' : s.size ≤ 1000000 := by omega
  have hBW : W.cell? ⟨Bn, 0, none⟩ = some (.string s) := (hW.cell (p := ⟨Bn, 0, none⟩) (World.block_lt_of_cell? _ _ hBn)).trans hBn
  have hEW : W.cell? ⟨2, 0, none⟩ = some (errL aL) := (hW.cell (p := ⟨2, 0, none⟩) (World.block_lt_of_cell? _ _ hE)).trans hE
  clear hBn hE
  have Hr := Lib.hid hr; clear hr
  have hle := skipTo_le s.data.toList 0 (Nat.zero_le _)
  rw [e1.out] at hle
  refine callsIn_of_wp Tryz.func43 rfl trivial ?_ rfl
  simp only [Tryz.ntmps43, List.size_toArray, List.length_cons, List.length_nil, Nat.reduceAdd, Nat.reduceSub, Array.replicate_succ, Array.replicate_zero, List.push_toArray, List.append_toArray, List.nil_append, List.cons_append]
  gi_wp2_with (refine ⟨trivial, ?_⟩; gi_at_call 44; refine (callsIn_wide.2 (skip_any s 0 _ hs' (Nat.zero_le _))).mono ?_; rintro e w' ⟨rfl, rfl⟩)
  gi_loopw [3] (fun vp wr => ∃ (p : Nat) (pre rest : List Tok), vp = .int .i64 p ∧ p ≤ s.size ∧ pre.length ≤ p ∧ Hid (ts = pre ++ rest) ∧ Hid (Runs s.data.toList p rest er) ∧ J (pre.map .inl) wr ∧
      wr.cell? ⟨Bn, 0, none⟩ = some (.string s) ∧ wr.cell? ⟨2, 0, none⟩ = some (errL aL)) (fun vp _ => s.size - (intOf vp).toNat)
  case atStart => exact ⟨_, [], ts, rfl, hle, Nat.zero_le _, rfl, Hr, h0, hBW, hEW⟩
  case round =>
    obtain ⟨p, pre, rest, rfl, hp, hpl, hts, hruns, hJ, hBr, hEr⟩ := hrel
    by_cases hlt : p < s.size
    · have hl : p < s.data.toList.length := by rw [e1.out]; exact hlt
      cases hw : wordOf (s.data.toList.drop p) with
      | none =>
        have Hw := Lib.hid hw; clear hw
        gi_wp2_with (refine ⟨trivial, ?_⟩; gi_at_call 45; refine (callsIn_wide.2 (word_any s p _ hs' hlt)).mono ?_; rw [Hw.out]; rintro e w1 ⟨rfl, hb1⟩; unfold tokV; have hE1 : w1.cell? ⟨2, 0, none⟩ = some (.iface 133 (.pointer (some aL))) := (hb1.cell (p := ⟨2, 0, none⟩) (World.block_lt_of_cell? _ _ hEr)).trans hEr; have hz1 : 2 < w1.heap.size := World.block_lt_of_cell? _ _ hE1; obtain ⟨fn, tmps, assign, body, hy, hR⟩ := hY (pre.map .inl) (.inr (p, w1.heap.size + 1)) wr ((w1.alloc (.cells #[.int .i64 0, .int .i64 0, .string ⟨#[]⟩, .int .i64 0] 52)).alloc (.cells #[.int .i64 p, .iface 133 (.pointer (some aL))] 90)) hJ (by simp; omega) ((hb1.alloc hb1.size _).alloc (by have := hb1.size; simp; omega) _) (at_new w1 _ p aL); dsimp only [encI, tokV, errVal] at hy)
        refine hR.mono ?_
        have hbad := runs_bad _ _ _ _ hl Hw.out hruns.out
        have HB := Lib.hid hbad; clear hbad hY
        rintro e W3 (⟨rfl, hJ3, _⟩ | ⟨rfl, hJx3⟩)
        · gi_wp2
          refine bodyPost_ret (results_none rfl _ _ _) rfl ⟨⟨_, rfl⟩, .inl ⟨_, .inr ⟨p, w1.heap.size + 1, HB.out.2, ?_⟩, hJ3⟩⟩
          rw [hts.out, HB.out.1, List.append_nil]
        · gi_wp2
          refine bodyPost_ret (results_none rfl _ _ _) rfl ⟨⟨_, rfl⟩, .inr ⟨_, .inr ⟨p, w1.heap.size + 1, HB.out.2, ?_⟩, hJx3⟩⟩
          rw [hts.out, HB.out.1, List.append_nil]
      | some r =>
        obtain ⟨k, m, v⟩ := r
        have hm := wordOf_len _ k m v hw
        rw [List.length_drop, e1.out] at hm
        obtain ⟨hm1, hm2⟩ := hm
        obtain ⟨ts', hts', hruns'⟩ := runs_word _ _ _ _ hl k m v hw hruns.out
        have Hts' := Lib.hid hts'; clear hts'
        have Hruns' := Lib.hid hruns'; clear hruns'
        obtain ⟨t, ht⟩ : ∃ t, (s.extract p s.size).extract 0 m = t := ⟨_, rfl⟩
        have htz : t.size = m := by rw [← ht]; simp [ByteArray.size_extract]; omega
        have Ht := Lib.hid ht; clear ht
        have hskip := fun w => skip_any s (p + m) w hs' (by omega)
        simp only [Int.natCast_add] at hskip
        have Hskip := Lib.hid hskip; clear hskip
        have Hw := Lib.hid hw; clear hw
        have hsk1 := skipTo_le s.data.toList (p + m) (by rw [e1.out]; omega)
        rw [e1.out] at hsk1
        have hsk2 := skipTo_ge s.data.toList (p + m)
        gi_wp2_with (refine ⟨trivial, ?_⟩; gi_at_call 45; refine (callsIn_wide.2 (word_any s p _ hs' hlt)).mono ?_; rw [Hw.out]; rintro e w1 ⟨rfl, hb1⟩; rw [Ht.out]; unfold tokV; obtain ⟨fn, tmps, assign, body, hy, hR⟩ := hY (pre.map .inl) (.inl ⟨k, p, m, v⟩) wr (w1.alloc (.cells #[.int .i64 k, .int .i64 p, .string t, .int .i64 v] 52)) hJ (by simp; omega) (hb1.alloc hb1.size _) trivial; dsimp only [encI, tokVal, tokV] at hy; rw [Ht.out] at hy)
        refine hR.mono ?_
        clear hY hR hy
        rintro e W3 (⟨rfl, hJ3, hk3⟩ | ⟨rfl, hJx3⟩)
        · have hlt1 : w1.heap.size < (w1.alloc (.cells #[.int .i64 k, .int .i64 p, .string t, .int .i64 v] 52)).heap.size := by simp
          have hbox := (hk3.block w1.heap.size (.inl hb1.size) hlt1).trans (World.alloc_heap_new w1 _)
          have hbl : ∀ (b : Nat) (u : Value), b = Bn ∨ b = 2 → wr.cell? ⟨b, 0, none⟩ = some u → W3.cell? ⟨b, 0, none⟩ = some u := fun b u hb hu => by
            have q1 := World.block_lt_of_cell? _ _ hu
            have q2 : b < w1.heap.size := Nat.lt_of_lt_of_le q1 hb1.size
            have q3 := (hk3.block b (.inr hb) (by simp; omega)).trans ((Below.heap_alloc w1 _ b q2).trans (hb1.block b q1))
            exact (World.cell?_of_block (a := ⟨b, 0, none⟩) q3).trans hu
          have c2 : W3.cell? ⟨w1.heap.size, 2, none⟩ = some (.string t) := by simp [World.cell?, hbox]
          have cB := hbl Bn _ (.inl rfl) hBr
          have cE := hbl 2 _ (.inr rfl) hEr
          have CE := Lib.hid cE; clear cE
          clear hbox hbl hk3 hlt1
          gi_wp2_with (refine ⟨trivial, ?_⟩; gi_at_call 44; refine (callsIn_wide.2 (Hskip.out _)).mono ?_; rintro e w' ⟨rfl, rfl⟩)
          go_roundw
          case rel => exact ⟨_, pre ++ [⟨k, p, m, v⟩], ts', rfl, hsk1, by simp; omega, Lib.hid (by rw [hts.out, Hts'.out]; simp), Hruns', by rw [List.map_append]; exact hJ3, cB, CE.out⟩
          case measure => simp [intOf]; omega
        · gi_wp2
          refine bodyPost_ret (results_none rfl _ _ _) rfl ⟨⟨_, rfl⟩, .inr ⟨_, .inl ⟨pre ++ [⟨k, p, m, v⟩], ⟨ts', by rw [hts.out, Hts'.out]; simp⟩, by simp⟩, hJx3⟩⟩
    · have hst := runs_stop _ _ _ _ (by rw [e1.out]; omega) hruns.out
      have HS := Lib.hid hst; clear hst hY
      gi_wp2
      go_end0
      exact ⟨⟨_, rfl⟩, .inl ⟨pre.map .inl, .inl ⟨HS.out.2, by rw [hts.out, HS.out.1, List.append_nil]⟩, hJ⟩⟩
end Go.Proofs.YtdooeghicdaakaaGreatDoor
