
/- The closure of (*Table).Get. Condition: a table in memory, the closure's two cells. -/
import Derived.Test.YthjnpfhcjacibaaLTab
import Derived.Test.YthjnpfhcjacibaaSFirst
namespace Go.Proofs.Ythjnpfhcjacibaa
open Go.RowKit Go.Lib

theorem partsL_length (ps : List PartL) : (partsL ps).length = ps.length * 4 := by
  induction ps with
  | nil => rfl
  | cons p ps ih => simp only [partsL, List.flatMap_cons, List.length_append] at *; rw [ih]; simp [PartL.enc]; omega
theorem partsL_get : ∀ (ps : List PartL) (i : Nat) (p : PartL), ps[i]? = some p → (partsL ps)[i * 4]? = some (.int .i64 (p.first : Nat)) ∧ (partsL ps)[i * 4 + 1]? = some (.int .i64 (p.last : Nat)) ∧ (partsL ps)[i * 4 + 2]? = some (.int .i64 (p.at_ : Nat)) ∧ (partsL ps)[i * 4 + 3]? = some (.int .i64 (p.step : Nat))
  | [], i, p, h => by simp at h
  | q :: ps, 0, p, h => by
    simp at h
    subst h
    simp [partsL, PartL.enc]
  | q :: ps, i + 1, p, h => by
    have := partsL_get ps i p (by simpa using h)
    have e : ∀ k, (partsL (q :: ps))[(i + 1) * 4 + k]? = (partsL ps)[i * 4 + k]? := fun k => by
      show (PartL.enc q ++ partsL ps)[(i + 1) * 4 + k]? = _
      rw [List.getElem?_append_right (by simp [PartL.enc]; omega)]
      congr 1
      simp [PartL.enc]
      omega
    have e0 := e 0
    simp only [Nat.add_zero] at e0
    rw [e0, e 1, e 2, e 3]
    exact this
def Rising (ps : List PartL) : Prop := (ps.Pairwise fun p q => p.last < q.first) ∧ ∀ p ∈ ps, p.first ≤ p.last
set_option maxRecDepth 100000 in
set_option maxHeartbeats 1600000 in
theorem get1_any (B g fmt : Nat) (ps : List PartL) (ns : List Nat) (g2 g3 i : Nat) (p : PartL) (id : Int) (w : World) (h : TabIs B g fmt ps ns w) (hp : ps[i]? = some p) (hi : ps.length ≤ 1000000)
    (c2 : w.cell? ⟨g2, 0, none⟩ = some (.pointer (some ⟨g, 0, none⟩))) (c3 : w.cell? ⟨g3, 0, none⟩ = some (.int .i64 id)) :
    Calls Try.prog 24 #[.int .i64 (i : Nat), .pointer (some ⟨g2, 0, none⟩), .pointer (some ⟨g3, 0, none⟩)] w fun e w' => e = .returned (.bool (decide (id ≤ (p.last : Nat)))) ∧ Below w.heap.size w w' := by
  have hAC := allocC
  have hAF := allocF
  obtain ⟨ap, cp, an, cn, h0, h1, _⟩ := h.is
  have c1 := cell_of_heap h0 1
  simp only [List.getElem?_toArray, List.getElem?_cons_succ, List.getElem?_cons_zero] at c1
  have hil := (List.getElem?_eq_some_iff.1 hp).1
  obtain ⟨gp, cap, cur, hv, _⟩ : ∃ gp cap cur, (Value.slice ap ps.length cp) = .slice (some ⟨gp, 0, none⟩) ps.length cap ∧ cur = (0 : Nat) := by
    rcases h1.2 with ⟨hv, hn0⟩ | ⟨gp, cap, cur, hv, _⟩
    · omega
    · exact ⟨gp, cap, 0, hv, rfl⟩
  injection hv with ea _ _
  subst ea
  obtain ⟨_, x1, _, _⟩ := partsL_get ps i p hp
  have hc := (h1.cellAt (i * 4 + 1) (by omega)).trans x1
  have hl1 := cell_lt hc
  have hl2 := cell_lt c1
  have hl3 := cell_lt c2
  have hl4 := cell_lt c3
  simp only at hl1 hl2 hl3 hl4
  generalize hL : ps.length = L at *
  generalize p.last = z at *
  clear h h0 h1 x1 hp hL
  go_enter Try.func24, Try.ntmps24
  go_wp2_with fail
  refine wp_region_ord [0, 1, 2, 3, 4, 5, 6, 7, 8, 9, 10] (by kernel_rfl) (by kernel_rfl) (by kernel_rfl) (by kernel_rfl) (by intro _ _ d_ _ _ h_; cases d_ <;> first | exact h_ | (dsimp +zetaDelta only at h_ ⊢; exact h_)) (fun w' => ∃ p : Wld w [], w' = p.val) (wld_start _ _) ?_
  have hG_ := @wldC w
  (refine ord_quiet (by simp only [List.getElem?_toArray, List.getElem?_cons_succ, List.getElem?_cons_zero]; rfl) (by rfl) (by rfl) (fun K_ hK_ => ?_); go_big_quiet_op; refine hK_ _ ?_; clear hK_ K_)
  (refine ord_quiet (by simp only [List.getElem?_toArray, List.getElem?_cons_succ, List.getElem?_cons_zero]; rfl) (by rfl) (by rfl) (fun K_ hK_ => ?_); go_big_quiet_op; refine hK_ _ ?_; clear hK_ K_)
  (refine ord_quiet (by simp only [List.getElem?_toArray, List.getElem?_cons_succ, List.getElem?_cons_zero]; rfl) (by rfl) (by rfl) (fun K_ hK_ => ?_); go_big_quiet_op; refine hK_ _ ?_; clear hK_ K_)
  (refine ord_quiet (by simp only [List.getElem?_toArray, List.getElem?_cons_succ, List.getElem?_cons_zero]; rfl) (by rfl) (by rfl) (fun K_ hK_ => ?_); go_big_quiet_op; refine hK_ _ ?_; clear hK_ K_)
  (refine ord_quiet (by simp only [List.getElem?_toArray, List.getElem?_cons_succ, List.getElem?_cons_zero]; rfl) (by rfl) (by rfl) (fun K_ hK_ => ?_); go_big_quiet_op; refine hK_ _ ?_; clear hK_ K_)
  (refine ord_quiet (by simp only [List.getElem?_toArray, List.getElem?_cons_succ, List.getElem?_cons_zero]; rfl) (by rfl) (by rfl) (fun K_ hK_ => ?_); go_big_quiet_op; refine hK_ _ ?_; clear hK_ K_)
  (refine ord_quiet (by simp only [List.getElem?_toArray, List.getElem?_cons_succ, List.getElem?_cons_zero]; rfl) (by rfl) (by rfl) (fun K_ hK_ => ?_); go_big_quiet_op; refine hK_ _ ?_; clear hK_ K_)
  (refine ord_quiet (by simp only [List.getElem?_toArray, List.getElem?_cons_succ, List.getElem?_cons_zero]; rfl) (by rfl) (by rfl) (fun K_ hK_ => ?_); go_big_quiet_op; refine hK_ _ ?_; clear hK_ K_)
  (refine ord_quiet (by simp only [List.getElem?_toArray, List.getElem?_cons_succ, List.getElem?_cons_zero]; rfl) (by rfl) (by rfl) (fun K_ hK_ => ?_); go_big_quiet_op; refine hK_ _ ?_; clear hK_ K_)
  (refine ord_quiet (by simp only [List.getElem?_toArray, List.getElem?_cons_succ, List.getElem?_cons_zero]; rfl) (by rfl) (by rfl) (fun K_ hK_ => ?_); go_big_quiet_op; refine hK_ _ ?_; clear hK_ K_)
  (refine ord_quiet (by simp only [List.getElem?_toArray, List.getElem?_cons_succ, List.getElem?_cons_zero]; rfl) (by rfl) (by rfl) (fun K_ hK_ => ?_); go_big_quiet_op; refine hK_ _ ?_; clear hK_ K_)
  refine ord_nil ?_
  clear hG_
  go_wp2_with fail
  go_ret
  exact ⟨rfl, (by repeat (first | with_reducible exact brefl _ | with_reducible assumption | (with_reducible refine bset ?_ (by first | (simp; done) | (simp; omega)) _) | with_reducible refine balloc ?_ _ | with_reducible refine bdrew ?_ _ | with_reducible refine bdrew1 ?_ | with_reducible refine bthen ?_ (by assumption) | with_reducible refine Below.trans ?_ (by assumption) | exact brefl _ | assumption | refine balloc ?_ _ | refine bdrew ?_ _ | refine bdrew1 ?_ | refine bthen ?_ (by assumption) | refine Below.trans ?_ (by assumption) | (refine bset ?_ (by first | (simp; done) | (simp; omega)) _)))⟩
end Go.Proofs.Ythjnpfhcjacibaa
