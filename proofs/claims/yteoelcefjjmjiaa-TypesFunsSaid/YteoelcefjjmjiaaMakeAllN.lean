/- Types of depth three, of depth four, made of numbers. -/
import Derived.Test.YteoelcefjjmjiaaMakeStepN
namespace Go.Proofs.Yteoelcefjjmjiaa
open Go.RowKit

theorem make_n1 (B p : Nat) (a : Option Addr) (n c k : Nat) (w : World) (h : SeqAt B p a n c k w) (hk : k + 4 < 1152921504606846976) (hn : n < 1152921504606846976) :
    Calls Try.prog 8 #[.pointer (some ⟨p, 0, none⟩), .int .i64 1] w (MadeN B p a n c k 4 28 w) :=
  make_stepN 1 (by decide) (by decide) 2 14 (by decide) (by decide) B p a n c k w h hk hn (fun k w h hk => make_n0 B p a n c k w h (by omega) hn)
theorem make_n2 (B p : Nat) (a : Option Addr) (n c k : Nat) (w : World) (h : SeqAt B p a n c k w) (hk : k + 8 < 1152921504606846976) (hn : n < 1152921504606846976) :
    Calls Try.prog 8 #[.pointer (some ⟨p, 0, none⟩), .int .i64 2] w (MadeN B p a n c k 8 56 w) :=
  make_stepN 2 (by decide) (by decide) 4 28 (by decide) (by decide) B p a n c k w h hk hn (fun k w h hk => make_n1 B p a n c k w h hk hn)
theorem make_n3 (B p : Nat) (a : Option Addr) (n c k : Nat) (w : World) (h : SeqAt B p a n c k w) (hk : k + 16 < 1152921504606846976) (hn : n < 1152921504606846976) :
    Calls Try.prog 8 #[.pointer (some ⟨p, 0, none⟩), .int .i64 3] w (MadeN B p a n c k 16 112 w) :=
  make_stepN 3 (by decide) (by decide) 8 56 (by decide) (by decide) B p a n c k w h hk hn (fun k w h hk => make_n2 B p a n c k w h hk hn)
theorem make_n4 (B p : Nat) (a : Option Addr) (n c k : Nat) (w : World) (h : SeqAt B p a n c k w) (hk : k + 32 < 1152921504606846976) (hn : n < 1152921504606846976) :
    Calls Try.prog 8 #[.pointer (some ⟨p, 0, none⟩), .int .i64 4] w (MadeN B p a n c k 32 224 w) :=
  make_stepN 4 (by decide) (by decide) 16 112 (by decide) (by decide) B p a n c k w h hk hn (fun k w h hk => make_n3 B p a n c k w h hk hn)
end Go.Proofs.Yteoelcefjjmjiaa
