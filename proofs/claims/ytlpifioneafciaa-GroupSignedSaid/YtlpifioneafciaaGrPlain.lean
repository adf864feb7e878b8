/- The search for rings as plain data: what it holds, one step of it. -/
namespace Go.Proofs.Ytlpifioneafciaa

/-- Beyond all numbers. -/
def grTop : Nat := 9223372036854775807
def updN (W : Nat → Nat) (r x : Nat) : Nat → Nat := fun i => if i = r then x else W i
theorem updN_same (W : Nat → Nat) (r x : Nat) : updN W r x r = x := by simp [updN]
theorem updN_other (W : Nat → Nat) {r i : Nat} (x : Nat) (h : i ≠ r) : updN W r x i = W i := by simp [updN, h]
/-- The search: by node what is left of its needs, its number, the least number of its ring, its ring; the way; those that are open; how many were met; how many rings there are. -/
structure SS where
  rest : Nat → List Nat
  met : Nat → Nat
  low : Nat → Nat
  ring : Nat → Nat
  path : List Nat
  opn : List Nat
  count : Nat
  rings : Nat
def SS.meet (s : SS) (v : Nat) : SS := { s with count := s.count + 1, met := updN s.met v (s.count + 1), low := updN s.low v (s.count + 1), path := s.path ++ [v], opn := s.opn ++ [v] }
/-- One that is open is put into the ring that is being made. -/
def SS.drop1 (s : SS) (v : Nat) : SS := { s with opn := s.opn.dropLast, ring := updN s.ring v s.rings, met := updN s.met v grTop }
/-- The last so many. -/
def SS.dropN : Nat → SS → SS
  | 0, s => s
  | k + 1, s => SS.dropN k (s.drop1 (s.opn.getLastD 0))
/-- How many stand behind the last v, with it. -/
def behindN (v : Nat) : List Nat → Nat
  | [] => 0
  | a :: l => if a = v then 1 else 1 + behindN v l
def SS.close (s : SS) (v : Nat) : SS :=
  let t := SS.dropN (behindN v s.opn.reverse) s
  { t with rings := t.rings + 1 }
def SS.leave (s : SS) (v : Nat) : SS :=
  let t := { s with path := s.path.dropLast }
  if s.low v = s.met v then t.close v else { t with low := updN t.low (t.path.getLastD 0) (min (t.low (t.path.getLastD 0)) (t.low v)) }
def SS.step (s : SS) : SS :=
  match s.path.getLast? with
  | none => s
  | some v =>
    match s.rest v with
    | [] => s.leave v
    | a :: r =>
      let t := { s with rest := fun i => if i = v then r else s.rest i }
      if s.met a = 0 then t.meet a else { t with low := updN t.low v (min (t.low v) (t.met a)) }
end Go.Proofs.Ytlpifioneafciaa
