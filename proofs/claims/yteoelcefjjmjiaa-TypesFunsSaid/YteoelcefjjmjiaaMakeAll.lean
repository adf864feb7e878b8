/- Types of depth three, of depth four, made of numbers. -/
import Derived.Test.YteoelcefjjmjiaaMakeStep
namespace Go.Proofs.Yteoelcefjjmjiaa
open Go.RowKit

theorem make_type1 (B p : Nat) (a : Option Addr) (n c k : Nat) (w : World) (h : SeqAt B p a n c k w) (hk : k + 4 < 1152921504606846976) (hn : n < 1152921504606846976) :
    Calls Try.prog 8 #[.pointer (some ⟨p, 0, none⟩), .int .i64 1] w (MadeT B p a n c k 4 28 w) :=
  make_step 1 (by decide) (by decide) 2 14 (by decide) (by decide) B p a n c k w h hk hn (fun k w h hk => make_type0 B p a n c k w h (by omega) hn)
theorem make_type2 (B p : Nat) (a : Option Addr) (n c k : Nat) (w : World) (h : SeqAt B p a n c k w) (hk : k + 8 < 1152921504606846976) (hn : n < 1152921504606846976) :
    Calls Try.prog 8 #[.pointer (some ⟨p, 0, none⟩), .int .i64 2] w (MadeT B p a n c k 8 56 w) :=
  make_step 2 (by decide) (by decide) 4 28 (by decide) (by decide) B p a n c k w h hk hn (fun k w h hk => make_type1 B p a n c k w h hk hn)
theorem make_type3 (B p : Nat) (a : Option Addr) (n c k : Nat) (w : World) (h : SeqAt B p a n c k w) (hk : k + 16 < 1152921504606846976) (hn : n < 1152921504606846976) :
    Calls Try.prog 8 #[.pointer (some ⟨p, 0, none⟩), .int .i64 3] w (MadeT B p a n c k 16 112 w) :=
  make_step 3 (by decide) (by decide) 8 56 (by decide) (by decide) B p a n c k w h hk hn (fun k w h hk => make_type2 B p a n c k w h hk hn)
theorem make_type4 (B p : Nat) (a : Option Addr) (n c k : Nat) (w : World) (h : SeqAt B p a n c k w) (hk : k + 32 < 1152921504606846976) (hn : n < 1152921504606846976) :
    Calls Try.prog 8 #[.pointer (some ⟨p, 0, none⟩), .int .i64 4] w (MadeT B p a n c k 32 224 w) :=
  make_step 4 (by decide) (by decide) 16 112 (by decide) (by decide) B p a n c k w h hk hn (fun k w h hk => make_type3 B p a n c k w h hk hn)
end Go.Proofs.Yteoelcefjjmjiaa
