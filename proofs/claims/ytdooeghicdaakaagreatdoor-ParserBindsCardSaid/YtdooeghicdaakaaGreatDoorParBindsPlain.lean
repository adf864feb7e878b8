/- The texts of ParserBinds, read by the plain reader. -/
import Derived.Test.YtdooeghicdaakaaGreatDoorParRec
import Derived.Test.YtdooeghicdaakaaGreatDoorParSameE
namespace Go.Proofs.YtdooeghicdaakaaGreatDoor

def idE (s : St) : E × St := (E.zero, s)
def toksOf (s : ByteArray) : List Tok := (lexF s.data.toList (s.size + 1) (skipTo s.data.toList 0)).1
/-- What an expression of a text without let and case is. -/
def readE (s : ByteArray) : E × Option (Int × Bool) := wholeP (cxOf s (toksOf s)) (exprP (cxOf s (toksOf s)) idE idE ((toksOf s).length + 1))
theorem tame_id (c : Cx) : Tame c idE := fun s => After.refl c s
/-- Neither let nor case is among the words. -/
def plainW (s : ByteArray) : Bool := (toksOf s).all fun t => !((wdOf s t).text.data.toList == [108, 101, 116]) && !((wdOf s t).text.data.toList == [99, 97, 115, 101])
theorem plainW_no {s : ByteArray} (h : plainW s = true) (t : St) : isT (cxOf s (toksOf s)) t [108, 101, 116] = false ∧ isT (cxOf s (toksOf s)) t [99, 97, 115, 101] = false := by
  unfold isT word ahead
  by_cases hl : t.next + 0 < (cxOf s (toksOf s)).ws.length
  · rw [List.getElem?_eq_getElem hl]
    have hl' : t.next + 0 < (toksOf s).length := by simpa [cxOf] using hl
    have := List.all_eq_true.1 h (toksOf s)[t.next + 0] (List.getElem_mem hl')
    simp only [Bool.and_eq_true, Bool.not_eq_true'] at this
    simpa [cxOf] using this
  · rw [List.getElem?_eq_none (by omega)]
    exact ⟨rfl, rfl⟩
def runsB (s : ByteArray) : Bool := (lexF s.data.toList (s.size + 1) (skipTo s.data.toList 0)).2.isNone
theorem runs_of {s : ByteArray} (h : runsB s = true) : Runs s.data.toList (skipTo s.data.toList 0) (toksOf s) none := by
  refine ⟨s.size + 1, by rw [length_data]; omega, ?_⟩
  unfold toksOf
  have : (lexF s.data.toList (s.size + 1) (skipTo s.data.toList 0)).2 = none := by simpa [runsB] using h
  rw [← this]

def bindsT : List ByteArray := [⟨#[97, 32, 43, 32, 98, 32, 42, 32, 99]⟩, ⟨#[97, 32, 42, 32, 98, 32, 43, 32, 99]⟩, ⟨#[97, 32, 45, 32, 98, 32, 45, 32, 99]⟩, ⟨#[102, 32, 97, 32, 43, 32, 103, 32, 98]⟩, ⟨#[97, 32, 43, 32, 98, 32, 61, 61, 32, 99, 32, 42, 32, 100]⟩, ⟨#[102, 32, 97, 32, 98]⟩, ⟨#[97, 32, 42, 32, 98, 32, 42, 32, 99]⟩, ⟨#[45, 32, 97]⟩, ⟨#[97, 32, 61, 61, 32, 98, 32, 61, 61, 32, 99]⟩, ⟨#[97, 32, 60, 32, 98, 32, 43, 32, 99]⟩, ⟨#[102, 32, 40, 92, 120, 32, 45, 62, 32, 120, 41, 32, 121]⟩, ⟨#[97, 32, 43, 32, 92, 120, 32, 45, 62, 32, 120]⟩]
def bindsF : List ByteArray := [⟨#[40, 40, 43, 41, 32, 97, 41, 32, 40, 40, 42, 41, 32, 98, 32, 99, 41]⟩, ⟨#[40, 40, 43, 41, 32, 40, 40, 42, 41, 32, 97, 32, 98, 41, 41, 32, 99]⟩, ⟨#[40, 45, 41, 32, 40, 40, 45, 41, 32, 97, 32, 98, 41, 32, 99]⟩, ⟨#[40, 43, 41, 32, 40, 102, 32, 97, 41, 32, 40, 103, 32, 98, 41]⟩, ⟨#[40, 61, 61, 41, 32, 40, 40, 43, 41, 32, 97, 32, 98, 41, 32, 40, 40, 42, 41, 32, 99, 32, 100, 41]⟩, ⟨#[40, 40, 102, 32, 97, 41, 32, 98, 41]⟩, ⟨#[40, 42, 41, 32, 40, 40, 42, 41, 32, 97, 32, 98, 41, 32, 99]⟩, ⟨#[]⟩, ⟨#[]⟩, ⟨#[40, 60, 41, 32, 97, 32, 40, 40, 43, 41, 32, 98, 32, 99, 41]⟩, ⟨#[40, 102, 32, 40, 92, 120, 32, 45, 62, 32, 120, 41, 41, 32, 121]⟩, ⟨#[]⟩
]
/-- All that the law asks of a pair of texts. -/
def bindsOK (t f : ByteArray) : Bool := (decide (t.size ≤ 100) && decide (f.size ≤ 100)) && (plainW t && runsB t) &&
  (if f.size = 0 then (readE t).2.isSome else (plainW f && runsB f) && ((readE t).2.isNone && (readE f).2.isNone) && (simpleE (readE t).1 && simpleE (readE f).1) && sameE (readE t).1 (readE f).1)
set_option maxRecDepth 100000 in
theorem binds_all : ((bindsT.zip bindsF).all fun p => bindsOK p.1 p.2) = true := by kernel_rfl
end Go.Proofs.YtdooeghicdaakaaGreatDoor
