/- GroupSigned: the definitions that the law makes. -/
import Derived.Test.YtlpifioneafciaaGrSpecN
import Derived.Test.YtlpifioneafciaaGrFree
import Derived.Test.YtlpifioneafciaaGrRingL
import Derived.Test.YtlpifioneafciaaGrOrdL
namespace Go.Proofs.Ytlpifioneafciaa
open Go.RowKit Go.Maps Go.Lib
attribute [local go_sem] Oper.semAt_some

theorem conv_one (c : Nat) (hc : c < 256) (W : World) : (convert 32 9 (.slice (some ⟨W.heap.size, 0, none⟩) 1 1)).run Try.prog (W.alloc (.cells #[.int .u8 (c : Int)] 5)) = .ok (.string ⟨#[UInt8.ofNat c]⟩) (W.alloc (.cells #[.int .u8 (c : Int)] 5)) := by
  have h := run_convert_bytes_back (P := Try.prog) (W.alloc (.cells #[.int .u8 (c : Int)] 5)) 32 9 5 ⟨W.heap.size, 0, none⟩ 1 [UInt8.ofNat c] (by kernel_rfl) (by kernel_rfl) (by kernel_rfl) (fun j hj => by
    obtain rfl : j = 0 := by simpa using hj
    rw [show (⟨W.heap.size, 0, none⟩ : Addr).add 0 = ⟨W.heap.size, 0, none⟩ from rfl, World.cell?_alloc_new]
    simp
    omega)
  exact h
/-- The name of number i. -/
def nmB (i : Nat) : ByteArray := ({ data := #[120] } : ByteArray) ++ { data := #[97 + UInt8.ofNat i] }
theorem nmB_succ (i : Nat) : ({ data := #[120] } : ByteArray) ++ { data := #[97 + UInt8.ofNat i + 1] } = nmB (i + 1) := by
  unfold nmB
  rw [UInt8.ofNat_add, UInt8.add_assoc]
  rfl
theorem Try.infoBind : (Try.prog.info? 45).map (fun i => (i.zero, i.size, i.bytes)) = some (some (.agg #[.string ⟨#[]⟩, .bool false, .slice none 0 0, .slice none 0 0, .int .i64 0, .string ⟨#[]⟩, .slice none 0 0, .int .i64 0, .int .i64 0, .string ⟨#[]⟩, .int .i64 0, .slice none 0 0, .slice none 0 0, .slice none 0 0, .int .i64 0]), 15, 240) := by kernel_rfl
def bindV (s : Bool) (i : Nat) : List Value := [.string (nmB i), .bool s, .slice none 0 0, .slice none 0 0, .int .i64 0, .string ⟨#[]⟩, .slice none 0 0, .int .i64 1, .int .i64 0, .string (nmB (i + 1)), .int .i64 0, .slice none 0 0, .slice none 0 0, .slice none 0 0, .int .i64 0]
def bindsV (s : Bool) (i : Nat) : List Value := (List.range i).flatMap (bindV s)
set_option maxRecDepth 100000 in
set_option maxHeartbeats 8000000 in
theorem gsigned_law (z : Int) (s : Bool) (w : World) (hgr : ∀ (n : Nat) (v : Value) (B : Nat) (W : World), n < 12 → B ≤ W.heap.size → W.ownsRow B 45 15 v n (bindsV s n) → Calls Try.prog 12 #[v] W fun e w' => (∃ tv, e = .returned tv ∧ GsR W.heap.size tv ((List.range n).map fun i => [if s then i else n - 1 - i]) w') ∧ Below W.heap.size W w') :
    Calls Try.prog 5 #[.int .i64 z, .bool s] w fun e w' => e = .returned (.bool true) ∧ Below w.heap.size w w' := by
  have HF := Lib.hid (first_any w)
  have HGr := Lib.hid hgr
  clear hgr
  obtain ⟨k1, k2, k3⟩ := kOf_eq (n := 12) (by omega) z
  have q1 := Int.tmod_lt_of_pos z (show (0 : Int) < ((12 : Nat) : Int) by omega)
  have q2 := Int.lt_tmod_of_pos z (show (0 : Int) < ((12 : Nat) : Int) by omega)
  rw [show (((12 : Nat) : Int)) = 12 from rfl] at k1 k2 q1 q2
  obtain ⟨r, hr⟩ : ∃ r, z.tmod 12 = r := ⟨_, rfl⟩
  rw [hr] at k1 k2 q1 q2
  obtain ⟨n, hn⟩ : ∃ n, kOf 12 z = n := ⟨_, rfl⟩
  rw [hn] at k1 k2 k3
  clear hn
  go_enter Try.func5, Try.ntmps5
  go_wp2_with (go_at_call 7; fail)
  refine HF.out.mono ?_
  rintro e w1 ⟨rfl, hb1⟩
  have HB1 := Lib.hid hb1
  clear hb1 HF
  obtain ⟨ib, hib, hb0, hbs, hbb⟩ := info_parts Try.infoBind
  go_wp2_with fail
  clear k1 k2 q1 q2 hr
  go_loopw [6, 7] (fun v6 vi W => ∃ i : Nat, i ≤ n ∧ vi = .int .i64 i ∧ Hid (W.ownsRow w1.heap.size 45 15 v6 i (bindsV s i)) ∧ Hid (Below w1.heap.size w1 W)) (fun _ vi _ => n - (RowKit.intOf vi).toNat)
  case atStart => exact ⟨0, Nat.zero_le _, rfl, Lib.hid (World.ownsRow_nil _ _ _ _), Lib.hid (Below.refl _ _)⟩
  case round =>
    rename World => W
    obtain ⟨i, hin, rfl, HR, HB⟩ := hrel
    by_cases hlt : i < n
    · have hltI : (i : Int) < (n : Int) := by omega
      have hi0 : (0 : Int) ≤ (i : Int) := by omega
      have hcv := conv_one (97 + i) (by omega) W
      rw [show ((97 + i : Nat) : Int) = 97 + (i : Int) by omega] at hcv
      have hcv2 := conv_one (97 + i + 1) (by omega) (W.alloc (.cells #[.int .u8 (97 + (i : Int))] 5))
      rw [show ((97 + i + 1 : Nat) : Int) = 97 + (i : Int) + 1 by omega, show (W.alloc (.cells #[.int .u8 (97 + (i : Int))] 5)).heap.size = W.heap.size + 1 by simp] at hcv2
      have hnm : ({ data := #[120] } : ByteArray) ++ { data := #[97 + UInt8.ofNat i] } = nmB i := rfl
      have hBs := HB.out.size
      go_wp2_with (at_builtin; refine wpList_append_own_at _ rfl _ _ 31 rfl w1.heap.size 45 ib _ 15 240 Try.underlying31 hib hb0 hbs hbb (by rfl) (by decide) _ _ _ rfl (((HR.out.alloc _).alloc _).alloc _) ⟨W.heap.size + 1 + 1, 0, none⟩ 1 1 (bindV s i) rfl rfl ?c2 ?c1 ?c3 ?c4 ?c5 ?_)
      case c2 =>
        intro j u hu
        have hj : j < 15 := by
          have := (List.getElem?_eq_some_iff.1 hu).1
          simpa [bindV] using this
        rw [nmB_succ]
        have hg := alloc_get ((W.alloc (.cells #[.int .u8 (97 + (i : Int))] 5)).alloc (.cells #[.int .u8 (97 + (i : Int) + 1)] 5)) (.cells (bindV s i).toArray 45)
        rw [show ((W.alloc (.cells #[.int .u8 (97 + (i : Int))] 5)).alloc (.cells #[.int .u8 (97 + (i : Int) + 1)] 5)).heap.size = W.heap.size + 1 + 1 by simp] at hg
        have hc := Lib.cell_of_heap hg j
        have e : (⟨W.heap.size + 1 + 1, 0, none⟩ : Addr).add j = ⟨W.heap.size + 1 + 1, j, none⟩ := by unfold Addr.add; split <;> simp_all
        rw [e]
        refine hc.trans ?_
        simpa using hu
      case c1 =>
        intro u hu
        simp only [bindV, List.mem_cons, List.not_mem_nil, or_false] at hu
        rcases hu with rfl | rfl | rfl | rfl | rfl | rfl | rfl | rfl | rfl | rfl | rfl | rfl | rfl | rfl | rfl <;> rfl
      case c3 => unfold maxLen; omega
      case c4 => omega
      case c5 => first | omega | (simp; omega)
      intro v4 W4 hown4 hgr4 _ hat4
      have HR2 := Lib.hid (show W4.ownsRow w1.heap.size 45 15 v4 (i + 1) (bindsV s (i + 1)) from by
        have e : bindsV s (i + 1) = bindsV s i ++ bindV s i := by unfold bindsV; rw [List.range_succ, List.flatMap_append]; simp
        rw [e]; exact hown4)
      have HB2 := Lib.hid (show Below w1.heap.size w1 W4 from (((HB.out.alloc hBs _).alloc (by simp; omega) _).alloc (by simp; omega) _).grown hgr4 (by simp; omega) (fun j e => (World.ownsRow.lt HR.out j e).1))
      clear hown4 hgr4 hat4 HR HB
      go_wp2_with fail
      go_roundw
      case rel => exact ⟨i + 1, by omega, by go_num, HR2, HB2⟩
      case measure => simp [RowKit.intOf]; omega
    · obtain rfl : i = n := by omega
      have hltI : ¬ (i : Int) < (i : Int) := by omega
      have HG := Lib.hid (HGr.out i u6 w1.heap.size W k3 HB.out.size HR.out)
      have HBW := Lib.hid (HB1.out.trans (HB.out.mono HB1.out.size))
      clear HR HB HGr HB1
      go_wp2_with (go_at_call 12; fail)
      refine HG.out.mono ?_
      rintro e W2 ⟨⟨tv, rfl, hgs⟩, hb2⟩
      obtain ⟨ga, gc, rfl⟩ := hgs.shape
      have HGs := Lib.hid hgs
      have HB2 := Lib.hid (HBW.out.trans (hb2.mono HBW.out.size))
      rw [show ((List.range i).map fun k => [if s then k else i - 1 - k]).length = i by simp]
      clear hgs hb2 HG HBW
      go_wp2_with fail
      go_loopw [9] (fun vk X => ∃ k : Nat, k ≤ i ∧ vk = .int .i64 k ∧ X = W2) (fun vk _ => i - (RowKit.intOf vk).toNat)
      case atStart => exact ⟨0, Nat.zero_le _, rfl, rfl⟩
      case round =>
        obtain ⟨k, hki, rfl, rfl⟩ := hrel
        by_cases hk : k < i
        · have hkI : (k : Int) < (i : Int) := by omega
          have hk0 : (0 : Int) ≤ (k : Int) := by omega
          have hgk : ((List.range i).map fun k => [if s then k else i - 1 - k]).getD k [] = [if s then k else i - 1 - k] := by simp [List.getD, hk]
          obtain ⟨q, rfl, ra, rc, y1, yr⟩ := HGs.out.rowAt (i := k) (by simpa using hk)
          rw [hgk] at y1 yr
          obtain ⟨g, o, rfl, yc⟩ := RowQ.one yr
          rw [show ([if s then k else i - 1 - k] : List Nat).length = 1 from rfl] at y1
          cases s with
          | true =>
            have e : (((if (true : Bool) = true then k else i - 1 - k) : Nat) : Int) = (k : Int) := by simp
            rw [e] at yc
            clear yr e
            go_wp2_with fail
            go_roundw
            case rel => exact ⟨k + 1, by omega, by go_num, trivial⟩
            case measure => simp [RowKit.intOf]; omega
          | false =>
            have e : (((if (false : Bool) = true then k else i - 1 - k) : Nat) : Int) = (i : Int) - 1 - (k : Int) := by simp; omega
            rw [e] at yc
            clear yr e
            go_wp2_with fail
            go_roundw
            case rel => exact ⟨k + 1, by omega, by go_num, trivial⟩
            case measure => simp [RowKit.intOf]; omega
        · obtain rfl : k = i := by omega
          have hkI : ¬ (k : Int) < (k : Int) := by omega
          go_wp2
          go_ret
          exact ⟨rfl, HB2.out⟩
end Go.Proofs.Ytlpifioneafciaa
