
/- (*Table).add throws where the part isn't above those that there are. Conditions: a table in memory, numbers within bounds. -/
import Derived.Test.YthjnpfhcjacibaaLGet
namespace Go.Proofs.Ythjnpfhcjacibaa
open Go.RowKit Go.Lib

def CanAdd (ps : List PartL) (f l : Int) : Prop := f ≤ l ∧ ∀ p, ps[ps.length - 1]? = some p → (p.last : Nat) < f
set_option maxRecDepth 100000 in
set_option maxHeartbeats 1600000 in
theorem add_bad (B g fmt : Nat) (ps : List PartL) (ns : List Nat) (f l st : Int) (w : World) (h : TabIs B g fmt ps ns w) (hl : ps.length ≤ 1000000) (hno : ¬ CanAdd ps f l) :
    Calls Try.prog 37 #[.pointer (some ⟨g, 0, none⟩), .int .i64 f, .int .i64 l, .int .i64 st] w fun e w' => e = .panicked thrown ∧ Below w.heap.size w w' := by
  by_cases hfl : f ≤ l
  · have hd : decide (f ≤ l) = true := by simpa using hfl
    obtain ⟨p, hp, hlf⟩ : ∃ p, ps[ps.length - 1]? = some p ∧ f ≤ (p.last : Nat) := by
      refine Classical.byContradiction fun hc => hno ⟨hfl, fun p hp => ?_⟩
      refine Int.not_le.1 fun hle => hc ⟨p, hp, hle⟩
    obtain ⟨ap, cp, an, cn, h0, h1, _⟩ := h.is
    have c1 := cell_of_heap h0 1
    simp only [List.getElem?_toArray, List.getElem?_cons_succ, List.getElem?_cons_zero] at c1
    have hil := (List.getElem?_eq_some_iff.1 hp).1
    obtain ⟨gp, hap⟩ : ∃ gp, ap = some ⟨gp, 0, none⟩ := by
      rcases h1.2 with ⟨hv, hn0⟩ | ⟨gp, cap, cur, hv, _⟩
      · omega
      · injection hv with ea _ _
        exact ⟨gp, ea⟩
    subst hap
    obtain ⟨_, x1, _, _⟩ := partsL_get ps (ps.length - 1) p hp
    have hc := (h1.cellAt ((ps.length - 1) * 4 + 1) (by omega)).trans x1
    have hd2 : decide (((p.last : Nat) : Int) < f) = false := by simp; omega
    have hL0 : ((ps.length : Int) == 0) = false := by rw [beq_eq_false_iff_ne]; omega
    have hLm : (ps.length : Int) - 1 = ((ps.length - 1 : Nat) : Int) := by omega
    generalize p.last = z at *
    clear h h0 h1 x1 hp hno
    generalize hq : ps.length - 1 = q at *
    generalize ps.length = L at *
    go_enter Try.func37, Try.ntmps37
    go_wp2_with (first | (go_at_call 18; refine (need_true _).mono ?_; rintro e wa ⟨rfl, rfl⟩) | (go_at_call 18; refine (need_false _).mono ?_; rintro e wa ⟨rfl, rfl⟩))
    exact ⟨rfl, rfl, brefl _⟩
  · have hd : decide (f ≤ l) = false := by simpa using hfl
    clear h hno
    go_enter Try.func37, Try.ntmps37
    go_wp2_with (first | (go_at_call 18; refine (need_false _).mono ?_; rintro e wa ⟨rfl, rfl⟩))
    exact ⟨rfl, rfl, brefl _⟩
end Go.Proofs.Ythjnpfhcjacibaa
