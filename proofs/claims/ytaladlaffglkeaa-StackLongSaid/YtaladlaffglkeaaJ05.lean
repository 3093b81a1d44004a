/- Joined from: LTab LGet LAdd LAdd2 LAlike LApart LTrim. -/
import Derived.Test.YtaladlaffglkeaaJ03
import Derived.Test.YtaladlaffglkeaaJ04
import Derived.Test.YtaladlaffglkeaaJ01
section

/- A lookup's table in memory, and the contract of (*Table).of. Conditions: as the lemmas say. -/
namespace Go.Proofs.Ytaladlaffglkeaa
open Go.RowKit Go.Lib

/-- Glyphs in a row that have numbers: from the first to the last, where theirs begin, and whether each has its own. -/
structure PartL where
  first : Nat
  last : Nat
  at_ : Nat
  step : Nat
def PartL.enc (p : PartL) : List Value := [.int .i64 (p.first : Nat), .int .i64 (p.last : Nat), .int .i64 (p.at_ : Nat), .int .i64 (p.step : Nat)]
def partsL (ps : List PartL) : List Value := ps.flatMap PartL.enc
def u32V (ns : List Nat) : List Value := ns.map fun x => .int .u32 (x : Nat)
theorem u32V_get (ns : List Nat) (j : Nat) (h : j < ns.length) : (u32V ns)[j]? = some (.int .u32 (ns.getD j 0 : Nat)) := by
  simp [u32V, List.getElem?_map, List.getElem?_eq_getElem h, List.getD_eq_getElem?_getD]
theorem lrow_cell {w : World} {B e M cl : Nat} {al : Option Addr} {vs : List Value} (h : w.ownsRow B e 1 (.slice al M cl) M vs) (k : Nat) (hk : k < M) : ∃ g v, al = some ⟨g, 0, none⟩ ∧ B ≤ g ∧ vs[k]? = some v ∧ w.cell? ⟨g, k, none⟩ = some v := by
  have hl : vs.length = M := by simpa using h.1
  rcases h.2 with ⟨hv, h0⟩ | ⟨g, cap, cur, hv, hg, _⟩
  · omega
  · injection hv with e1 _ e3
    subst e1 e3
    exact ⟨g, vs[k], rfl, hg, List.getElem?_eq_getElem (by omega), (h.cellAt k (by omega)).trans (List.getElem?_eq_getElem (by omega))⟩
structure TabIs (B g fmt : Nat) (ps : List PartL) (ns : List Nat) (w : World) : Prop where
  is : ∃ (ap : Option Addr) (cp : Nat) (an : Option Addr) (cn : Nat), w.heap[g]? = some (.cells #[.int .i64 (fmt : Nat), .slice ap ps.length cp, .slice an ns.length cn] 216 (0, 0)) ∧
    w.ownsRow B 218 4 (.slice ap ps.length cp) ps.length (partsL ps) ∧ w.ownsRow B 156 1 (.slice an ns.length cn) ns.length (u32V ns)
theorem TabIs.below {B g fmt : Nat} {ps : List PartL} {ns : List Nat} {w w' : World} (h : TabIs B g fmt ps ns w) (hb : Below w.heap.size w w') : TabIs B g fmt ps ns w' := by
  obtain ⟨ap, cp, an, cn, h0, h1, h2⟩ := h.is
  exact ⟨ap, cp, an, cn, (hb.block g (Array.getElem?_eq_some_iff.1 h0).1).trans h0, owns_below h1 hb (Nat.le_refl _), owns_below h2 hb (Nat.le_refl _)⟩
set_option maxRecDepth 100000 in
set_option maxHeartbeats 1600000 in
theorem tof_any (B g fmt : Nat) (ps : List PartL) (ns : List Nat) (p : PartL) (d : Nat) (id : Int) (hd : id = (p.first : Nat) + (d : Nat)) (w : World) (h : TabIs B g fmt ps ns w) (hj : p.at_ + p.step * d < ns.length) (hs : p.step = 0 ∨ p.step = 1) (h63 : p.first + d ≤ 1000000 ∧ ns.length ≤ 100000000) (hx : ∀ x ∈ ns, x ≤ 4294967295) :
    Calls Try.prog 127 #[.pointer (some ⟨g, 0, none⟩), .agg #[.int .i64 (p.first : Nat), .int .i64 (p.last : Nat), .int .i64 (p.at_ : Nat), .int .i64 (p.step : Nat)], .int .i64 id] w fun e w' => e = .returned (.int .i64 (ns.getD (p.at_ + p.step * d) 0 : Nat)) ∧ Below w.heap.size w w' := by
  have hAC := allocC
  have hAF := allocF
  obtain ⟨ap, cp, an, cn, h0, _, h2⟩ := h.is
  have c2 := cell_of_heap h0 2
  simp only [List.getElem?_toArray, List.getElem?_cons_succ, List.getElem?_cons_zero] at c2
  have hg := cell_lt c2
  simp only at hg
  obtain ⟨gn, v, rfl, _, hv, hc⟩ := lrow_cell h2 (p.at_ + p.step * d) hj
  rw [u32V_get _ _ hj] at hv
  cases hv
  have hgn := cell_lt hc
  simp only at hgn
  have hle : ns.getD (p.at_ + p.step * d) 0 ≤ 4294967295 := hx _ (by rw [List.getD_eq_getElem?_getD, List.getElem?_eq_getElem hj]; exact List.getElem_mem _)
  generalize ns.getD (p.at_ + p.step * d) 0 = x at *
  subst hd
  obtain ⟨P1, P2, P3, P4⟩ := p
  simp only at *
  have H0 := Lib.hid c2
  have HC := Lib.hid hc
  clear c2 hc
  rcases hs with rfl | rfl
  · simp only [Nat.zero_mul, Nat.add_zero] at HC hj
    go_enter Try.func127, Try.ntmps127
    go_wp2_with fail
    obtain ⟨W, hW⟩ : ∃ W, W = w.alloc (Obj.cells #[.int .i64 (P1 : Nat), .int .i64 (P2 : Nat), .int .i64 (P3 : Nat), .int .i64 0] 218) := ⟨_, rfl⟩
    have hb : Below w.heap.size w W := by rw [hW]; exact blw
    have hz : W.heap.size = w.heap.size + 1 := by rw [hW]; simp
    have d0 : W.cell? ⟨w.heap.size, 0, none⟩ = some (.int .i64 (P1 : Nat)) := by rw [hW]; simp [hAC]
    have d2 : W.cell? ⟨w.heap.size, 2, none⟩ = some (.int .i64 (P3 : Nat)) := by rw [hW]; simp [hAC]
    have d3 : W.cell? ⟨w.heap.size, 3, none⟩ = some (.int .i64 0) := by rw [hW]; simp [hAC]
    have c2 := (hb.cell (p := ⟨g, 2, none⟩) hg).trans H0.out
    have hc := (hb.cell (p := ⟨gn, P3, none⟩) hgn).trans HC.out
    have HB := Lib.hid hb
    rw [← hW]
    clear hW hb
    go_wp2_with fail
    refine wp_region_ord [0, 1, 2, 3, 4, 5, 6, 7, 8, 9, 10, 11, 12, 13, 14, 15, 16, 17] (by kernel_rfl) (by kernel_rfl) (by kernel_rfl) (by kernel_rfl) (by intro _ _ d_ _ _ h_; cases d_ <;> first | exact h_ | (dsimp +zetaDelta only at h_ ⊢; exact h_)) (fun w' => ∃ p : Wld W [], w' = p.val) (wld_start _ _) ?_
    have hG_ := @wldC W
    (refine ord_quiet gtA (by rfl) (by rfl) (fun K_ hK_ => ?_); go_big_quiet_op; refine hK_ _ ?_; clear hK_ K_)
    (refine ord_quiet gtA (by rfl) (by rfl) (fun K_ hK_ => ?_); go_big_quiet_op; refine hK_ _ ?_; clear hK_ K_)
    (refine ord_quiet gtA (by rfl) (by rfl) (fun K_ hK_ => ?_); go_big_quiet_op; refine hK_ _ ?_; clear hK_ K_)
    (refine ord_quiet gtA (by rfl) (by rfl) (fun K_ hK_ => ?_); go_big_quiet_op; refine hK_ _ ?_; clear hK_ K_)
    (refine ord_quiet gtA (by rfl) (by rfl) (fun K_ hK_ => ?_); go_big_quiet_op; refine hK_ _ ?_; clear hK_ K_)
    (refine ord_quiet gtA (by rfl) (by rfl) (fun K_ hK_ => ?_); go_big_quiet_op; refine hK_ _ ?_; clear hK_ K_)
    (refine ord_quiet gtA (by rfl) (by rfl) (fun K_ hK_ => ?_); go_big_quiet_op; refine hK_ _ ?_; clear hK_ K_)
    (refine ord_quiet gtA (by rfl) (by rfl) (fun K_ hK_ => ?_); go_big_quiet_op; refine hK_ _ ?_; clear hK_ K_)
    (refine ord_quiet gtA (by rfl) (by rfl) (fun K_ hK_ => ?_); go_big_quiet_op; refine hK_ _ ?_; clear hK_ K_)
    (refine ord_quiet gtA (by rfl) (by rfl) (fun K_ hK_ => ?_); go_big_quiet_op; refine hK_ _ ?_; clear hK_ K_)
    (refine ord_quiet gtA (by rfl) (by rfl) (fun K_ hK_ => ?_); go_big_quiet_op; refine hK_ _ ?_; clear hK_ K_)
    (refine ord_quiet gtA (by rfl) (by rfl) (fun K_ hK_ => ?_); go_big_quiet_op; refine hK_ _ ?_; clear hK_ K_)
    (refine ord_quiet gtA (by rfl) (by rfl) (fun K_ hK_ => ?_); go_big_quiet_op; refine hK_ _ ?_; clear hK_ K_)
    (refine ord_quiet gtA (by rfl) (by rfl) (fun K_ hK_ => ?_); go_big_quiet_op; refine hK_ _ ?_; clear hK_ K_)
    (refine ord_quiet gtA (by rfl) (by rfl) (fun K_ hK_ => ?_); go_big_quiet_op; refine hK_ _ ?_; clear hK_ K_)
    (refine ord_quiet gtA (by rfl) (by rfl) (fun K_ hK_ => ?_); go_big_quiet_op; refine hK_ _ ?_; clear hK_ K_)
    (refine ord_quiet gtA (by rfl) (by rfl) (fun K_ hK_ => ?_); go_big_quiet_op; refine hK_ _ ?_; clear hK_ K_)
    (refine ord_quiet gtA (by rfl) (by rfl) (fun K_ hK_ => ?_); go_big_quiet_op; refine hK_ _ ?_; clear hK_ K_)
    refine ord_nil ?_
    clear hG_
    go_wp2_with fail
    go_ret
    exact ⟨rfl, HB.out.trans (Below.mono (show Below W.heap.size W _ from blw) (by omega))⟩
  · simp only [Nat.one_mul] at HC hj
    go_enter Try.func127, Try.ntmps127
    go_wp2_with fail
    obtain ⟨W, hW⟩ : ∃ W, W = w.alloc (Obj.cells #[.int .i64 (P1 : Nat), .int .i64 (P2 : Nat), .int .i64 (P3 : Nat), .int .i64 1] 218) := ⟨_, rfl⟩
    have hb : Below w.heap.size w W := by rw [hW]; exact blw
    have hz : W.heap.size = w.heap.size + 1 := by rw [hW]; simp
    have d0 : W.cell? ⟨w.heap.size, 0, none⟩ = some (.int .i64 (P1 : Nat)) := by rw [hW]; simp [hAC]
    have d2 : W.cell? ⟨w.heap.size, 2, none⟩ = some (.int .i64 (P3 : Nat)) := by rw [hW]; simp [hAC]
    have d3 : W.cell? ⟨w.heap.size, 3, none⟩ = some (.int .i64 1) := by rw [hW]; simp [hAC]
    have c2 := (hb.cell (p := ⟨g, 2, none⟩) hg).trans H0.out
    have hc := (hb.cell (p := ⟨gn, P3 + d, none⟩) hgn).trans HC.out
    have HB := Lib.hid hb
    rw [← hW]
    clear hW hb
    go_wp2_with fail
    refine wp_region_ord [0, 1, 2, 3, 4, 5, 6, 7, 8, 9, 10, 11, 12, 13, 14, 15, 16, 17] (by kernel_rfl) (by kernel_rfl) (by kernel_rfl) (by kernel_rfl) (by intro _ _ d_ _ _ h_; cases d_ <;> first | exact h_ | (dsimp +zetaDelta only at h_ ⊢; exact h_)) (fun w' => ∃ p : Wld W [], w' = p.val) (wld_start _ _) ?_
    have hG_ := @wldC W
    (refine ord_quiet gtA (by rfl) (by rfl) (fun K_ hK_ => ?_); go_big_quiet_op; refine hK_ _ ?_; clear hK_ K_)
    (refine ord_quiet gtA (by rfl) (by rfl) (fun K_ hK_ => ?_); go_big_quiet_op; refine hK_ _ ?_; clear hK_ K_)
    (refine ord_quiet gtA (by rfl) (by rfl) (fun K_ hK_ => ?_); go_big_quiet_op; refine hK_ _ ?_; clear hK_ K_)
    (refine ord_quiet gtA (by rfl) (by rfl) (fun K_ hK_ => ?_); go_big_quiet_op; refine hK_ _ ?_; clear hK_ K_)
    (refine ord_quiet gtA (by rfl) (by rfl) (fun K_ hK_ => ?_); go_big_quiet_op; refine hK_ _ ?_; clear hK_ K_)
    (refine ord_quiet gtA (by rfl) (by rfl) (fun K_ hK_ => ?_); go_big_quiet_op; refine hK_ _ ?_; clear hK_ K_)
    (refine ord_quiet gtA (by rfl) (by rfl) (fun K_ hK_ => ?_); go_big_quiet_op; refine hK_ _ ?_; clear hK_ K_)
    (refine ord_quiet gtA (by rfl) (by rfl) (fun K_ hK_ => ?_); go_big_quiet_op; refine hK_ _ ?_; clear hK_ K_)
    (refine ord_quiet gtA (by rfl) (by rfl) (fun K_ hK_ => ?_); go_big_quiet_op; refine hK_ _ ?_; clear hK_ K_)
    (refine ord_quiet gtA (by rfl) (by rfl) (fun K_ hK_ => ?_); go_big_quiet_op; refine hK_ _ ?_; clear hK_ K_)
    (refine ord_quiet gtA (by rfl) (by rfl) (fun K_ hK_ => ?_); go_big_quiet_op; refine hK_ _ ?_; clear hK_ K_)
    (refine ord_quiet gtA (by rfl) (by rfl) (fun K_ hK_ => ?_); go_big_quiet_op; refine hK_ _ ?_; clear hK_ K_)
    (refine ord_quiet gtA (by rfl) (by rfl) (fun K_ hK_ => ?_); go_big_quiet_op; refine hK_ _ ?_; clear hK_ K_)
    (refine ord_quiet gtA (by rfl) (by rfl) (fun K_ hK_ => ?_); go_big_quiet_op; refine hK_ _ ?_; clear hK_ K_)
    (refine ord_quiet gtA (by rfl) (by rfl) (fun K_ hK_ => ?_); go_big_quiet_op; refine hK_ _ ?_; clear hK_ K_)
    (refine ord_quiet gtA (by rfl) (by rfl) (fun K_ hK_ => ?_); go_big_quiet_op; refine hK_ _ ?_; clear hK_ K_)
    (refine ord_quiet gtA (by rfl) (by rfl) (fun K_ hK_ => ?_); go_big_quiet_op; refine hK_ _ ?_; clear hK_ K_)
    (refine ord_quiet gtA (by rfl) (by rfl) (fun K_ hK_ => ?_); go_big_quiet_op; refine hK_ _ ?_; clear hK_ K_)
    refine ord_nil ?_
    clear hG_
    go_wp2_with fail
    go_ret
    exact ⟨rfl, HB.out.trans (Below.mono (show Below W.heap.size W _ from blw) (by omega))⟩
end Go.Proofs.Ytaladlaffglkeaa
end
section

/- The closure of (*Table).Get. Condition: a table in memory, the closure's two cells. -/
namespace Go.Proofs.Ytaladlaffglkeaa
open Go.RowKit Go.Lib

theorem partsL_get : ∀ (ps : List PartL) (i : Nat) (p : PartL), ps[i]? = some p → (partsL ps)[i * 4]? = some (.int .i64 (p.first : Nat)) ∧ (partsL ps)[i * 4 + 1]? = some (.int .i64 (p.last : Nat)) ∧ (partsL ps)[i * 4 + 2]? = some (.int .i64 (p.at_ : Nat)) ∧ (partsL ps)[i * 4 + 3]? = some (.int .i64 (p.step : Nat))
  | [], i, p, h => by simp at h
  | q :: ps, 0, p, h => by
    simp at h
    subst h
    simp [partsL, PartL.enc]
  | q :: ps, i + 1, p, h => by
    have := partsL_get ps i p (by simpa using h)
    have e : ∀ k, (partsL (q :: ps))[(i + 1) * 4 + k]? = (partsL ps)[i * 4 + k]? := fun k => by
      show (PartL.enc q ++ partsL ps)[(i + 1) * 4 + k]? = _
      rw [List.getElem?_append_right (by simp [PartL.enc]; omega)]
      congr 1
      simp [PartL.enc]
      omega
    have e0 := e 0
    simp only [Nat.add_zero] at e0
    rw [e0, e 1, e 2, e 3]
    exact this
def Rising (ps : List PartL) : Prop := (ps.Pairwise fun p q => p.last < q.first) ∧ ∀ p ∈ ps, p.first ≤ p.last
set_option maxRecDepth 100000 in
set_option maxHeartbeats 1600000 in
theorem get1_any (B g fmt : Nat) (ps : List PartL) (ns : List Nat) (g2 g3 i : Nat) (p : PartL) (id : Int) (w : World) (h : TabIs B g fmt ps ns w) (hp : ps[i]? = some p) (hi : ps.length ≤ 1000000)
    (c2 : w.cell? ⟨g2, 0, none⟩ = some (.pointer (some ⟨g, 0, none⟩))) (c3 : w.cell? ⟨g3, 0, none⟩ = some (.int .i64 id)) :
    Calls Try.prog 126 #[.int .i64 (i : Nat), .pointer (some ⟨g2, 0, none⟩), .pointer (some ⟨g3, 0, none⟩)] w fun e w' => e = .returned (.bool (decide (id ≤ (p.last : Nat)))) ∧ Below w.heap.size w w' := by
  have hAC := allocC
  have hAF := allocF
  obtain ⟨ap, cp, an, cn, h0, h1, _⟩ := h.is
  have c1 := cell_of_heap h0 1
  simp only [List.getElem?_toArray, List.getElem?_cons_succ, List.getElem?_cons_zero] at c1
  have hil := (List.getElem?_eq_some_iff.1 hp).1
  obtain ⟨gp, cap, cur, hv, _⟩ : ∃ gp cap cur, (Value.slice ap ps.length cp) = .slice (some ⟨gp, 0, none⟩) ps.length cap ∧ cur = (0 : Nat) := by
    rcases h1.2 with ⟨hv, hn0⟩ | ⟨gp, cap, cur, hv, _⟩
    · omega
    · exact ⟨gp, cap, 0, hv, rfl⟩
  injection hv with ea _ _
  subst ea
  obtain ⟨_, x1, _, _⟩ := partsL_get ps i p hp
  have hc := (h1.cellAt (i * 4 + 1) (by omega)).trans x1
  have hl1 := cell_lt hc
  have hl2 := cell_lt c1
  have hl3 := cell_lt c2
  have hl4 := cell_lt c3
  simp only at hl1 hl2 hl3 hl4
  generalize hL : ps.length = L at *
  generalize p.last = z at *
  clear h h0 h1 x1 hp hL
  go_enter Try.func126, Try.ntmps126
  go_wp2_with fail
  refine wp_region_ord [0, 1, 2, 3, 4, 5, 6, 7, 8, 9, 10] (by kernel_rfl) (by kernel_rfl) (by kernel_rfl) (by kernel_rfl) (by intro _ _ d_ _ _ h_; cases d_ <;> first | exact h_ | (dsimp +zetaDelta only at h_ ⊢; exact h_)) (fun w' => ∃ p : Wld w [], w' = p.val) (wld_start _ _) ?_
  have hG_ := @wldC w
  (refine ord_quiet gtA (by rfl) (by rfl) (fun K_ hK_ => ?_); go_big_quiet_op; refine hK_ _ ?_; clear hK_ K_)
  (refine ord_quiet gtA (by rfl) (by rfl) (fun K_ hK_ => ?_); go_big_quiet_op; refine hK_ _ ?_; clear hK_ K_)
  (refine ord_quiet gtA (by rfl) (by rfl) (fun K_ hK_ => ?_); go_big_quiet_op; refine hK_ _ ?_; clear hK_ K_)
  (refine ord_quiet gtA (by rfl) (by rfl) (fun K_ hK_ => ?_); go_big_quiet_op; refine hK_ _ ?_; clear hK_ K_)
  (refine ord_quiet gtA (by rfl) (by rfl) (fun K_ hK_ => ?_); go_big_quiet_op; refine hK_ _ ?_; clear hK_ K_)
  (refine ord_quiet gtA (by rfl) (by rfl) (fun K_ hK_ => ?_); go_big_quiet_op; refine hK_ _ ?_; clear hK_ K_)
  (refine ord_quiet gtA (by rfl) (by rfl) (fun K_ hK_ => ?_); go_big_quiet_op; refine hK_ _ ?_; clear hK_ K_)
  (refine ord_quiet gtA (by rfl) (by rfl) (fun K_ hK_ => ?_); go_big_quiet_op; refine hK_ _ ?_; clear hK_ K_)
  (refine ord_quiet gtA (by rfl) (by rfl) (fun K_ hK_ => ?_); go_big_quiet_op; refine hK_ _ ?_; clear hK_ K_)
  (refine ord_quiet gtA (by rfl) (by rfl) (fun K_ hK_ => ?_); go_big_quiet_op; refine hK_ _ ?_; clear hK_ K_)
  (refine ord_quiet gtA (by rfl) (by rfl) (fun K_ hK_ => ?_); go_big_quiet_op; refine hK_ _ ?_; clear hK_ K_)
  refine ord_nil ?_
  clear hG_
  go_wp2_with fail
  go_ret
  exact ⟨rfl, blw⟩
end Go.Proofs.Ytaladlaffglkeaa
end
section

/- (*Table).add throws where the part isn't above those that there are. Conditions: a table in memory, numbers within bounds. -/
namespace Go.Proofs.Ytaladlaffglkeaa
open Go.RowKit Go.Lib

def CanAdd (ps : List PartL) (f l : Int) : Prop := f ≤ l ∧ ∀ p, ps[ps.length - 1]? = some p → (p.last : Nat) < f
set_option maxRecDepth 100000 in
set_option maxHeartbeats 1600000 in
theorem add_bad (B g fmt : Nat) (ps : List PartL) (ns : List Nat) (f l st : Int) (w : World) (h : TabIs B g fmt ps ns w) (hl : ps.length ≤ 1000000) (hno : ¬ CanAdd ps f l) :
    Calls Try.prog 155 #[.pointer (some ⟨g, 0, none⟩), .int .i64 f, .int .i64 l, .int .i64 st] w fun e w' => e = .panicked thrown ∧ Below w.heap.size w w' := by
  by_cases hfl : f ≤ l
  · have hd : decide (f ≤ l) = true := by simpa using hfl
    obtain ⟨p, hp, hlf⟩ : ∃ p, ps[ps.length - 1]? = some p ∧ f ≤ (p.last : Nat) := by
      refine Classical.byContradiction fun hc => hno ⟨hfl, fun p hp => ?_⟩
      refine Int.not_le.1 fun hle => hc ⟨p, hp, hle⟩
    obtain ⟨ap, cp, an, cn, h0, h1, _⟩ := h.is
    have c1 := cell_of_heap h0 1
    simp only [List.getElem?_toArray, List.getElem?_cons_succ, List.getElem?_cons_zero] at c1
    have hil := (List.getElem?_eq_some_iff.1 hp).1
    obtain ⟨gp, hap⟩ : ∃ gp, ap = some ⟨gp, 0, none⟩ := by
      rcases h1.2 with ⟨hv, hn0⟩ | ⟨gp, cap, cur, hv, _⟩
      · omega
      · injection hv with ea _ _
        exact ⟨gp, ea⟩
    subst hap
    obtain ⟨_, x1, _, _⟩ := partsL_get ps (ps.length - 1) p hp
    have hc := (h1.cellAt ((ps.length - 1) * 4 + 1) (by omega)).trans x1
    have hd2 : decide (((p.last : Nat) : Int) < f) = false := by simp; omega
    have hL0 : ((ps.length : Int) == 0) = false := by rw [beq_eq_false_iff_ne]; omega
    have hLm : (ps.length : Int) - 1 = ((ps.length - 1 : Nat) : Int) := by omega
    generalize p.last = z at *
    clear h h0 h1 x1 hp hno
    generalize hq : ps.length - 1 = q at *
    generalize ps.length = L at *
    go_enter Try.func155, Try.ntmps155
    go_wp2_with (first | (go_at_call 94; refine (need_true _).mono ?_; rintro e wa ⟨rfl, rfl⟩) | (go_at_call 94; refine (need_false _).mono ?_; rintro e wa ⟨rfl, rfl⟩))
    exact ⟨rfl, rfl, brefl _⟩
  · have hd : decide (f ≤ l) = false := by simpa using hfl
    clear h hno
    go_enter Try.func155, Try.ntmps155
    go_wp2_with (first | (go_at_call 94; refine (need_false _).mono ?_; rintro e wa ⟨rfl, rfl⟩))
    exact ⟨rfl, rfl, brefl _⟩
end Go.Proofs.Ytaladlaffglkeaa
end
section

/- (*Table).add: a part above those that there are is put behind them. Conditions: a table in memory whose block is above the base; numbers within bounds. -/
namespace Go.Proofs.Ytaladlaffglkeaa
open Go.RowKit Go.Lib

/-- All below B, and all blocks but the table, rows of parts, and rows of numbers, are as they were. -/
structure LKeep (B g : Nat) (w w' : World) : Prop where
  below : Below B w w'
  size : w.heap.size ≤ w'.heap.size
  kept : ∀ (k : Nat) (cs : Array Value) (t : Nat) (fz : Nat × Nat), w.heap[k]? = some (.cells cs t fz) → t ≠ 218 → t ≠ 156 → k ≠ g → w'.heap[k]? = w.heap[k]?
theorem LKeep.refl (B g : Nat) (w : World) : LKeep B g w w := ⟨Below.refl _ _, Nat.le_refl _, fun _ _ _ _ _ _ _ _ => rfl⟩
theorem LKeep.trans {B g : Nat} {a b c : World} (h : LKeep B g a b) (k : LKeep B g b c) : LKeep B g a c :=
  ⟨h.below.trans k.below, Nat.le_trans h.size k.size, fun x cs t fz hx h1 h2 h3 => (k.kept x cs t fz ((h.kept x cs t fz hx h1 h2 h3).trans hx) h1 h2 h3).trans (h.kept x cs t fz hx h1 h2 h3)⟩
theorem LKeep.of {B g : Nat} {w w' : World} (h : Below w.heap.size w w') (hB : B ≤ w.heap.size) : LKeep B g w w' :=
  ⟨h.mono hB, h.size, fun k _ _ _ hk _ _ _ => h.block k (Array.getElem?_eq_some_iff.1 hk).1⟩
theorem LKeep.ofE {B g : Nat} {e : TypeId} {w w' : World} (h : Below B w w') (hk : KeptE e w w') (he : e = 218 ∨ e = 156) : LKeep B g w w' :=
  ⟨h, hk.1, fun k cs t fz hx h1 h2 _ => hk.2 k cs t fz hx (by rcases he with rfl | rfl <;> assumption)⟩
theorem LKeep.set {B g o : Nat} {w w' : World} (h : LKeep B g w w') (hB : B ≤ g) (v : Value) : LKeep B g w (w'.setCell ⟨g, o, none⟩ v) :=
  ⟨h.below.setCell (p := ⟨g, o, none⟩) hB v, by simpa using h.size, fun k cs t fz hx h1 h2 h3 => (set_heap_other v h3).trans (h.kept k cs t fz hx h1 h2 h3)⟩
theorem part_info : (Try.prog.info? 218).map (fun i => (i.zero, i.size, i.bytes)) = some (some (.agg #[.int .i64 0, .int .i64 0, .int .i64 0, .int .i64 0]), 4, 32) := by kernel_rfl
theorem u32_info : (Try.prog.info? 156).map (fun i => (i.zero, i.size, i.bytes)) = some (some (.int .u32 0), 1, 4) := by kernel_rfl
theorem partsL_snoc (ps : List PartL) (p : PartL) : partsL ps ++ p.enc = partsL (ps ++ [p]) := by simp [partsL]
theorem u32V_snoc (ns : List Nat) (n : Nat) : u32V ns ++ [.int .u32 (n : Nat)] = u32V (ns ++ [n]) := by simp [u32V]
theorem add_tail {B g fmt : Nat} {ps : List PartL} {ns : List Nat} {a3 ap an : Option Addr} {c3 cp cn : Nat} {p : PartL} {w w3 : World} (h0 : w.heap[g]? = some (.cells #[.int .i64 (fmt : Nat), .slice ap ps.length cp, .slice an ns.length cn] 216 (0, 0)))
    (ho : w3.ownsRow B 218 4 (.slice a3 (ps.length + 1) c3) (ps.length + 1) (partsL ps ++ p.enc)) (h2 : w.ownsRow B 156 1 (.slice an ns.length cn) ns.length (u32V ns)) (hk : KeptE 218 w w3) (hB : B ≤ g) (hb : Below B w w3) :
    TabIs B g fmt (ps ++ [p]) ns (w3.setCell ⟨g, 1, none⟩ (.slice a3 (ps.length + 1) c3)) ∧ LKeep B g w (w3.setCell ⟨g, 1, none⟩ (.slice a3 (ps.length + 1) c3)) := by
  have hw3 := (hk.2 g _ _ _ h0 (by decide)).trans h0
  have h2' := hk.owns h2 (by decide)
  refine ⟨⟨a3, c3, an, cn, ?_, ?_, ?_⟩, (LKeep.ofE hb hk (.inl rfl)).set hB _⟩
  · rw [set_heap_at _ hw3, List.length_append]; rfl
  · rw [List.length_append, ← partsL_snoc]
    exact set_owns _ ho (own_neE ho hw3 (by decide))
  · exact set_owns _ h2' (own_neE h2' hw3 (by decide))
set_option maxRecDepth 100000 in
set_option maxHeartbeats 1600000 in
theorem add_ok (B g fmt : Nat) (ps : List PartL) (ns : List Nat) (f l st : Nat) (zf zl zs : Int) (hzf : zf = (f : Nat)) (hzl : zl = (l : Nat)) (hzs : zs = (st : Nat)) (w : World) (h : TabIs B g fmt ps ns w) (hB : B ≤ g) (hl : ps.length ≤ 1000000) (hn : ns.length ≤ 100000000) (hyes : CanAdd ps (f : Nat) (l : Nat)) :
    Calls Try.prog 155 #[.pointer (some ⟨g, 0, none⟩), .int .i64 zf, .int .i64 zl, .int .i64 zs] w fun e w' => e = .returned (.tuple #[]) ∧ TabIs B g fmt (ps ++ [⟨f, l, ns.length, st⟩]) ns w' ∧ LKeep B g w w' := by
  have hAC := allocC
  have hAF := allocF
  subst hzf hzl hzs
  obtain ⟨hfl, hlast⟩ := hyes
  obtain ⟨ap, cp, an, cn, h0, h1, h2⟩ := h.is
  have hg := (Array.getElem?_eq_some_iff.1 h0).1
  have c1 := cell_of_heap h0 1
  have c2 := cell_of_heap h0 2
  simp only [List.getElem?_toArray, List.getElem?_cons_succ, List.getElem?_cons_zero] at c1 c2
  have hd : decide (f ≤ l) = true := by simp; omega
  have hdi : decide ((f : Int) ≤ (l : Int)) = true := by simp; omega
  have H1 := Lib.hid h1
  have H2 := Lib.hid h2
  by_cases hL0 : ps.length = 0
  · have hLz : ((ps.length : Int) == 0) = true := by rw [beq_iff_eq]; omega
    clear h h1 h2 hlast hL0
    generalize hLL : ps.length = L at *
    generalize hNN : ns.length = M at *
    have HLL := Lib.hid hLL
    have HNN := Lib.hid hNN
    clear hLL hNN
    go_enter Try.func155, Try.ntmps155
    go_wp2_with (first | (go_at_call 94; refine (need_true _).mono ?_; rintro e wa ⟨rfl, rfl⟩))
    refine wp_region_last (.step 0 (.step 1 (.step 2 (.step 3 (.step 4 (.step 5 (.step 6 (.step 7 (.step 8 (.step 9 (.step 10 (.step 11 (.step 12 (.step 13 (.step 14 (.step 15 (.step 16 (.step 17 (.step 18 .nil))))))))))))))))))) 18 (by kernel_rfl) (by kernel_rfl) (by kernel_rfl) (by kernel_rfl) (by kernel_rfl) (by intro _ _ d_ _ _ h_; cases d_ <;> first | exact h_ | (dsimp +zetaDelta only at h_ ⊢; exact h_)) (fun w' => ∃ p : KepE 218 wa, w' = p.val) (kepE_start _ _) ?_
    have hK0_ := fun (p : KepE 218 wa) (o : Nat) => p.is.cell h0 (by decide) o
    (refine z_quiet gtA (by rfl) (by rfl) (fun K_ hK_ => ?_); go_big_quiet_op; refine hK_ _ ?_; clear hK_ K_)
    (refine z_quiet gtA (by rfl) (by rfl) (fun K_ hK_ => ?_); go_big_quiet_op; refine hK_ _ ?_; clear hK_ K_)
    (refine z_quiet gtA (by rfl) (by rfl) (fun K_ hK_ => ?_); go_big_quiet_op; refine hK_ _ ?_; clear hK_ K_)
    (refine z_quiet gtA (by rfl) (by rfl) (fun K_ hK_ => ?_); go_big_quiet_op; refine hK_ _ ?_; clear hK_ K_)
    (refine z_quiet gtA (by rfl) (by rfl) (fun K_ hK_ => ?_); go_big_quiet_op; refine hK_ _ ?_; clear hK_ K_)
    (refine z_quiet gtA (by rfl) (by rfl) (fun K_ hK_ => ?_); go_big_quiet_op; refine hK_ _ ?_; clear hK_ K_)
    (refine z_quiet gtA (by rfl) (by rfl) (fun K_ hK_ => ?_); go_big_quiet_op; refine hK_ _ ?_; clear hK_ K_)
    (refine z_quiet gtA (by rfl) (by rfl) (fun K_ hK_ => ?_); go_big_quiet_op; refine hK_ _ ?_; clear hK_ K_)
    (refine z_quiet gtA (by rfl) (by rfl) (fun K_ hK_ => ?_); go_big_quiet_op; refine hK_ _ ?_; clear hK_ K_)
    (refine z_quiet gtA (by rfl) (by rfl) (fun K_ hK_ => ?_); go_big_quiet_op; refine hK_ _ ?_; clear hK_ K_)
    (refine z_quiet gtA (by rfl) (by rfl) (fun K_ hK_ => ?_); go_big_quiet_op; refine hK_ _ ?_; clear hK_ K_)
    (refine z_quiet gtA (by rfl) (by rfl) (fun K_ hK_ => ?_); go_big_quiet_op; refine hK_ _ ?_; clear hK_ K_)
    (refine z_quiet gtA (by rfl) (by rfl) (fun K_ hK_ => ?_); go_big_quiet_op; refine hK_ _ ?_; clear hK_ K_)
    (refine z_quiet gtA (by rfl) (by rfl) (fun K_ hK_ => ?_); go_big_quiet_op; refine hK_ _ ?_; clear hK_ K_)
    (refine z_run gtA (by rfl) (by rfl) (fun K_ hK_ => ?_); have HK_ := Lib.hid hK_; clear hK_; (first | (((refine wpAppO _ _ 214 rfl B 218 (.agg #[.int .i64 0, .int .i64 0, .int .i64 0, .int .i64 0]) 4 32 Try.underlying214 part_info rfl (by decide) _ L (partsL ps) rfl (owns_below H1.out (balloc (bdrew1 (brefl wa)) _) (Nat.le_refl _)) ⟨wa.heap.size, 0, none⟩ 1 1 (PartL.enc ⟨f, l, M, st⟩) rfl rfl (has_alloc _ _ _) (fun u hu => by simp [PartL.enc] at hu; rcases hu with rfl | rfl | rfl | rfl <;> rfl) (by unfold maxLen; omega) (by omega) (by simp; omega) ?_); intro a3 c3 w3 hown3 t31 t32 t33 hb3 hg3; have hk3 := KeptE.grown (owns_below H1.out (balloc (bdrew1 (brefl wa)) _) (Nat.le_refl _)) hg3; have hkw : KeptE 218 wa w3 := ((KeptE.below (bdrew1 (brefl wa))).trans (KeptE.below (balloc (brefl _) _))).trans hk3; have hw3 := (hkw.2 g _ _ _ h0 (by decide)).trans h0; have s1 := cell_of_heap hw3 1; have sf := fun o => froz_of_heap hw3 o; have HO3 := Lib.hid hown3; have HB3 := Lib.hid hb3; have HK3 := Lib.hid hkw; have hz3 := hg3.size; clear hown3 t31 t32 t33 hb3 hg3; dsimp only [Act.put]; simp only [List.setIfInBounds_toArray, List.set_cons_succ, List.set_cons_zero])) | (go_wp2_with (fail))); refine HK_.out _ _ (kepE_of (by repeat (first | exact KeptE.refl _ _ | assumption | refine KeptE.trans ?_ (KeptE.below (bdrew1 (brefl _))) | refine KeptE.trans ?_ (KeptE.below (balloc (brefl _) _)) | refine KeptE.trans ?_ (KeptE.below (by assumption)) | refine KeptE.trans ?_ (by assumption)))) ?_; clear HK_)
    (refine z_run gtA (by rfl) (by rfl) (fun K_ hK_ => ?_); have HK_ := Lib.hid hK_; clear hK_; (first | (((refine wpAppO _ _ 214 rfl B 218 (.agg #[.int .i64 0, .int .i64 0, .int .i64 0, .int .i64 0]) 4 32 Try.underlying214 part_info rfl (by decide) _ L (partsL ps) rfl (owns_below H1.out (balloc (bdrew1 (brefl wa)) _) (Nat.le_refl _)) ⟨wa.heap.size, 0, none⟩ 1 1 (PartL.enc ⟨f, l, M, st⟩) rfl rfl (has_alloc _ _ _) (fun u hu => by simp [PartL.enc] at hu; rcases hu with rfl | rfl | rfl | rfl <;> rfl) (by unfold maxLen; omega) (by omega) (by simp; omega) ?_); intro a3 c3 w3 hown3 t31 t32 t33 hb3 hg3; have hk3 := KeptE.grown (owns_below H1.out (balloc (bdrew1 (brefl wa)) _) (Nat.le_refl _)) hg3; have hkw : KeptE 218 wa w3 := ((KeptE.below (bdrew1 (brefl wa))).trans (KeptE.below (balloc (brefl _) _))).trans hk3; have hw3 := (hkw.2 g _ _ _ h0 (by decide)).trans h0; have s1 := cell_of_heap hw3 1; have sf := fun o => froz_of_heap hw3 o; have HO3 := Lib.hid hown3; have HB3 := Lib.hid hb3; have HK3 := Lib.hid hkw; have hz3 := hg3.size; clear hown3 t31 t32 t33 hb3 hg3; dsimp only [Act.put]; simp only [List.setIfInBounds_toArray, List.set_cons_succ, List.set_cons_zero])) | (go_wp2_with (fail))); refine HK_.out _ _ (kepE_of (by repeat (first | exact KeptE.refl _ _ | assumption | refine KeptE.trans ?_ (KeptE.below (bdrew1 (brefl _))) | refine KeptE.trans ?_ (KeptE.below (balloc (brefl _) _)) | refine KeptE.trans ?_ (KeptE.below (by assumption)) | refine KeptE.trans ?_ (by assumption)))) ?_; clear HK_)
    (refine z_quiet gtA (by rfl) (by rfl) (fun K_ hK_ => ?_); go_big_quiet_op; refine hK_ _ ?_; clear hK_ K_)
    (refine z_quiet gtA (by rfl) (by rfl) (fun K_ hK_ => ?_); go_big_quiet_op; refine hK_ _ ?_; clear hK_ K_)
    (refine z_last gtA (by rfl) (by rfl) (by rfl) (fun K_ hK_ => ?_); have HK_ := Lib.hid hK_; clear hK_; (first | (((refine wpAppO _ _ 214 rfl B 218 (.agg #[.int .i64 0, .int .i64 0, .int .i64 0, .int .i64 0]) 4 32 Try.underlying214 part_info rfl (by decide) _ L (partsL ps) rfl (owns_below H1.out (balloc (bdrew1 (brefl wa)) _) (Nat.le_refl _)) ⟨wa.heap.size, 0, none⟩ 1 1 (PartL.enc ⟨f, l, M, st⟩) rfl rfl (has_alloc _ _ _) (fun u hu => by simp [PartL.enc] at hu; rcases hu with rfl | rfl | rfl | rfl <;> rfl) (by unfold maxLen; omega) (by omega) (by simp; omega) ?_); intro a3 c3 w3 hown3 t31 t32 t33 hb3 hg3; have hk3 := KeptE.grown (owns_below H1.out (balloc (bdrew1 (brefl wa)) _) (Nat.le_refl _)) hg3; have hkw : KeptE 218 wa w3 := ((KeptE.below (bdrew1 (brefl wa))).trans (KeptE.below (balloc (brefl _) _))).trans hk3; have hw3 := (hkw.2 g _ _ _ h0 (by decide)).trans h0; have s1 := cell_of_heap hw3 1; have sf := fun o => froz_of_heap hw3 o; have HO3 := Lib.hid hown3; have HB3 := Lib.hid hb3; have HK3 := Lib.hid hkw; have hz3 := hg3.size; clear hown3 t31 t32 t33 hb3 hg3; dsimp only [Act.put]; simp only [List.setIfInBounds_toArray, List.set_cons_succ, List.set_cons_zero])) | (go_wp2_with (fail))); refine HK_.out _ _ ?_; clear HK_)
    refine z_nil ?_
    clear hK0_
    go_wp2_with fail
    obtain rfl := HLL.out
    obtain rfl := HNN.out
    refine bodyPost_end (v := .tuple #[]) (by simp [results, Try.results155, go_sem]; try rfl) rfl ⟨rfl, add_tail h0 HO3.out H2.out HK3.out hB (((Below.refl B wa).drew.alloc (by simp; omega) _).trans HB3.out)⟩
  · obtain ⟨p, hp⟩ : ∃ p, ps[ps.length - 1]? = some p := ⟨_, List.getElem?_eq_getElem (by omega)⟩
    have hlf := hlast p hp
    have hil := (List.getElem?_eq_some_iff.1 hp).1
    obtain ⟨gp, hap⟩ : ∃ gp, ap = some ⟨gp, 0, none⟩ := by
      rcases h1.2 with ⟨hv, hn0⟩ | ⟨gp, cap, cur, hv, _⟩
      · omega
      · injection hv with ea _ _
        exact ⟨gp, ea⟩
    subst hap
    obtain ⟨_, x1, _, _⟩ := partsL_get ps (ps.length - 1) p hp
    have hc := (h1.cellAt ((ps.length - 1) * 4 + 1) (by omega)).trans x1
    have hd2 : decide (((p.last : Nat) : Int) < (f : Int)) = true := by simp; omega
    have hd3 : decide (p.last < f) = true := by simp; omega
    have hLz : ((ps.length : Int) == 0) = false := by rw [beq_eq_false_iff_ne]; omega
    have hLm : (ps.length : Int) - 1 = ((ps.length - 1 : Nat) : Int) := by omega
    generalize p.last = z at *
    clear h h1 h2 hlast hL0 x1 hp
    generalize hq : ps.length - 1 = q at *
    generalize hLL : ps.length = L at *
    generalize hNN : ns.length = M at *
    have HLL := Lib.hid hLL
    have HNN := Lib.hid hNN
    clear hLL hNN
    go_enter Try.func155, Try.ntmps155
    go_wp2_with (first | (go_at_call 94; refine (need_true _).mono ?_; rintro e wa ⟨rfl, rfl⟩))
    refine wp_region_last (.step 0 (.step 1 (.step 2 (.step 3 (.step 4 (.step 5 (.step 6 (.step 7 (.step 8 (.step 9 (.step 10 (.step 11 (.step 12 (.step 13 (.step 14 (.step 15 (.step 16 (.step 17 (.step 18 .nil))))))))))))))))))) 18 (by kernel_rfl) (by kernel_rfl) (by kernel_rfl) (by kernel_rfl) (by kernel_rfl) (by intro _ _ d_ _ _ h_; cases d_ <;> first | exact h_ | (dsimp +zetaDelta only at h_ ⊢; exact h_)) (fun w' => ∃ p : KepE 218 wa, w' = p.val) (kepE_start _ _) ?_
    have hK0_ := fun (p : KepE 218 wa) (o : Nat) => p.is.cell h0 (by decide) o
    (refine z_quiet gtA (by rfl) (by rfl) (fun K_ hK_ => ?_); go_big_quiet_op; refine hK_ _ ?_; clear hK_ K_)
    (refine z_quiet gtA (by rfl) (by rfl) (fun K_ hK_ => ?_); go_big_quiet_op; refine hK_ _ ?_; clear hK_ K_)
    (refine z_quiet gtA (by rfl) (by rfl) (fun K_ hK_ => ?_); go_big_quiet_op; refine hK_ _ ?_; clear hK_ K_)
    (refine z_quiet gtA (by rfl) (by rfl) (fun K_ hK_ => ?_); go_big_quiet_op; refine hK_ _ ?_; clear hK_ K_)
    (refine z_quiet gtA (by rfl) (by rfl) (fun K_ hK_ => ?_); go_big_quiet_op; refine hK_ _ ?_; clear hK_ K_)
    (refine z_quiet gtA (by rfl) (by rfl) (fun K_ hK_ => ?_); go_big_quiet_op; refine hK_ _ ?_; clear hK_ K_)
    (refine z_quiet gtA (by rfl) (by rfl) (fun K_ hK_ => ?_); go_big_quiet_op; refine hK_ _ ?_; clear hK_ K_)
    (refine z_quiet gtA (by rfl) (by rfl) (fun K_ hK_ => ?_); go_big_quiet_op; refine hK_ _ ?_; clear hK_ K_)
    (refine z_quiet gtA (by rfl) (by rfl) (fun K_ hK_ => ?_); go_big_quiet_op; refine hK_ _ ?_; clear hK_ K_)
    (refine z_quiet gtA (by rfl) (by rfl) (fun K_ hK_ => ?_); go_big_quiet_op; refine hK_ _ ?_; clear hK_ K_)
    (refine z_quiet gtA (by rfl) (by rfl) (fun K_ hK_ => ?_); go_big_quiet_op; refine hK_ _ ?_; clear hK_ K_)
    (refine z_quiet gtA (by rfl) (by rfl) (fun K_ hK_ => ?_); go_big_quiet_op; refine hK_ _ ?_; clear hK_ K_)
    (refine z_quiet gtA (by rfl) (by rfl) (fun K_ hK_ => ?_); go_big_quiet_op; refine hK_ _ ?_; clear hK_ K_)
    (refine z_quiet gtA (by rfl) (by rfl) (fun K_ hK_ => ?_); go_big_quiet_op; refine hK_ _ ?_; clear hK_ K_)
    (refine z_run gtA (by rfl) (by rfl) (fun K_ hK_ => ?_); have HK_ := Lib.hid hK_; clear hK_; (first | (((refine wpAppO _ _ 214 rfl B 218 (.agg #[.int .i64 0, .int .i64 0, .int .i64 0, .int .i64 0]) 4 32 Try.underlying214 part_info rfl (by decide) _ L (partsL ps) rfl (owns_below H1.out (balloc (bdrew1 (brefl wa)) _) (Nat.le_refl _)) ⟨wa.heap.size, 0, none⟩ 1 1 (PartL.enc ⟨f, l, M, st⟩) rfl rfl (has_alloc _ _ _) (fun u hu => by simp [PartL.enc] at hu; rcases hu with rfl | rfl | rfl | rfl <;> rfl) (by unfold maxLen; omega) (by omega) (by simp; omega) ?_); intro a3 c3 w3 hown3 t31 t32 t33 hb3 hg3; have hk3 := KeptE.grown (owns_below H1.out (balloc (bdrew1 (brefl wa)) _) (Nat.le_refl _)) hg3; have hkw : KeptE 218 wa w3 := ((KeptE.below (bdrew1 (brefl wa))).trans (KeptE.below (balloc (brefl _) _))).trans hk3; have hw3 := (hkw.2 g _ _ _ h0 (by decide)).trans h0; have s1 := cell_of_heap hw3 1; have sf := fun o => froz_of_heap hw3 o; have HO3 := Lib.hid hown3; have HB3 := Lib.hid hb3; have HK3 := Lib.hid hkw; have hz3 := hg3.size; clear hown3 t31 t32 t33 hb3 hg3; dsimp only [Act.put]; simp only [List.setIfInBounds_toArray, List.set_cons_succ, List.set_cons_zero])) | (go_wp2_with (fail))); refine HK_.out _ _ (kepE_of (by repeat (first | exact KeptE.refl _ _ | assumption | refine KeptE.trans ?_ (KeptE.below (bdrew1 (brefl _))) | refine KeptE.trans ?_ (KeptE.below (balloc (brefl _) _)) | refine KeptE.trans ?_ (KeptE.below (by assumption)) | refine KeptE.trans ?_ (by assumption)))) ?_; clear HK_)
    (refine z_run gtA (by rfl) (by rfl) (fun K_ hK_ => ?_); have HK_ := Lib.hid hK_; clear hK_; (first | (((refine wpAppO _ _ 214 rfl B 218 (.agg #[.int .i64 0, .int .i64 0, .int .i64 0, .int .i64 0]) 4 32 Try.underlying214 part_info rfl (by decide) _ L (partsL ps) rfl (owns_below H1.out (balloc (bdrew1 (brefl wa)) _) (Nat.le_refl _)) ⟨wa.heap.size, 0, none⟩ 1 1 (PartL.enc ⟨f, l, M, st⟩) rfl rfl (has_alloc _ _ _) (fun u hu => by simp [PartL.enc] at hu; rcases hu with rfl | rfl | rfl | rfl <;> rfl) (by unfold maxLen; omega) (by omega) (by simp; omega) ?_); intro a3 c3 w3 hown3 t31 t32 t33 hb3 hg3; have hk3 := KeptE.grown (owns_below H1.out (balloc (bdrew1 (brefl wa)) _) (Nat.le_refl _)) hg3; have hkw : KeptE 218 wa w3 := ((KeptE.below (bdrew1 (brefl wa))).trans (KeptE.below (balloc (brefl _) _))).trans hk3; have hw3 := (hkw.2 g _ _ _ h0 (by decide)).trans h0; have s1 := cell_of_heap hw3 1; have sf := fun o => froz_of_heap hw3 o; have HO3 := Lib.hid hown3; have HB3 := Lib.hid hb3; have HK3 := Lib.hid hkw; have hz3 := hg3.size; clear hown3 t31 t32 t33 hb3 hg3; dsimp only [Act.put]; simp only [List.setIfInBounds_toArray, List.set_cons_succ, List.set_cons_zero])) | (go_wp2_with (fail))); refine HK_.out _ _ (kepE_of (by repeat (first | exact KeptE.refl _ _ | assumption | refine KeptE.trans ?_ (KeptE.below (bdrew1 (brefl _))) | refine KeptE.trans ?_ (KeptE.below (balloc (brefl _) _)) | refine KeptE.trans ?_ (KeptE.below (by assumption)) | refine KeptE.trans ?_ (by assumption)))) ?_; clear HK_)
    (refine z_quiet gtA (by rfl) (by rfl) (fun K_ hK_ => ?_); go_big_quiet_op; refine hK_ _ ?_; clear hK_ K_)
    (refine z_quiet gtA (by rfl) (by rfl) (fun K_ hK_ => ?_); go_big_quiet_op; refine hK_ _ ?_; clear hK_ K_)
    (refine z_last gtA (by rfl) (by rfl) (by rfl) (fun K_ hK_ => ?_); have HK_ := Lib.hid hK_; clear hK_; (first | (((refine wpAppO _ _ 214 rfl B 218 (.agg #[.int .i64 0, .int .i64 0, .int .i64 0, .int .i64 0]) 4 32 Try.underlying214 part_info rfl (by decide) _ L (partsL ps) rfl (owns_below H1.out (balloc (bdrew1 (brefl wa)) _) (Nat.le_refl _)) ⟨wa.heap.size, 0, none⟩ 1 1 (PartL.enc ⟨f, l, M, st⟩) rfl rfl (has_alloc _ _ _) (fun u hu => by simp [PartL.enc] at hu; rcases hu with rfl | rfl | rfl | rfl <;> rfl) (by unfold maxLen; omega) (by omega) (by simp; omega) ?_); intro a3 c3 w3 hown3 t31 t32 t33 hb3 hg3; have hk3 := KeptE.grown (owns_below H1.out (balloc (bdrew1 (brefl wa)) _) (Nat.le_refl _)) hg3; have hkw : KeptE 218 wa w3 := ((KeptE.below (bdrew1 (brefl wa))).trans (KeptE.below (balloc (brefl _) _))).trans hk3; have hw3 := (hkw.2 g _ _ _ h0 (by decide)).trans h0; have s1 := cell_of_heap hw3 1; have sf := fun o => froz_of_heap hw3 o; have HO3 := Lib.hid hown3; have HB3 := Lib.hid hb3; have HK3 := Lib.hid hkw; have hz3 := hg3.size; clear hown3 t31 t32 t33 hb3 hg3; dsimp only [Act.put]; simp only [List.setIfInBounds_toArray, List.set_cons_succ, List.set_cons_zero])) | (go_wp2_with (fail))); refine HK_.out _ _ ?_; clear HK_)
    refine z_nil ?_
    clear hK0_
    go_wp2_with fail
    obtain rfl := HLL.out
    obtain rfl := HNN.out
    refine bodyPost_end (v := .tuple #[]) (by simp [results, Try.results155, go_sem]; try rfl) rfl ⟨rfl, add_tail h0 HO3.out H2.out HK3.out hB (((Below.refl B wa).drew.alloc (by simp; omega) _).trans HB3.out)⟩
end Go.Proofs.Ytaladlaffglkeaa
end
section

/- (*Table).alike. Conditions: a table in memory whose block is above the base; numbers within bounds. -/
namespace Go.Proofs.Ytaladlaffglkeaa
open Go.RowKit Go.Lib

/-- 'append' onto a slice of the call's own, in a row of operations. -/
theorem wpAppL {P : Program} {w : World} {ops : Array Oper} {rest : List Oper} {o : Oper} {a : Act} {Q : Exit → Act → World → Prop} (hgd : o.guard = none) (s x : Operand) (t : TypeId)
    (ho : o.op = .call { callee := .builtin .append, args := #[s, x], argTypes := #[t, t] })
    (base : Nat) (e : TypeId) (z : Value) (size bytes : Nat) (ht : P.underlying t = some (.slice e)) (hi : (P.info? e).map (fun i => (i.zero, i.size, i.bytes)) = some (some z, size, bytes)) (hzs : z.cells.size = size) (hsz : 0 < size)
    (v : Value) (n : Nat) (xs : List Value) (hs : a.eval s = v) (hown : w.ownsRow base e size v n xs)
    (p : Addr) (m c : Nat) (news : List Value) (hx : a.eval x = .slice (some p) m c) (hl : news.length = m * size) (hnews : Has w (some p) news) (h1 : ∀ u ∈ news, u.oneCell' = true)
    (h63 : n + m ≤ maxLen) (hbytes : (n + m) * bytes ≤ 140737488355328) (hbase : base ≤ w.heap.size)
    (h' : ∀ a' c' w', w'.ownsRow base e size (.slice a' (n + m) c') (n + m) (xs ++ news) → n + m ≤ c' → c' ≤ maxLen → (a' = none → c' = 0) → Below base w w' → w.grownBy w' v.ownBlock → wpList P ops Q rest (a.put o.dst (.slice a' (n + m) c')) w') : wpList P ops Q (o :: rest) a w :=
  wpList_plain hgd fun _ hK => wpAppO s x t ho base e z size bytes ht hi hzs hsz v n xs hs hown p m c news hx hl hnews h1 h63 hbytes hbase fun a' c' w' g1 g2 g3 g4 g5 g6 => hK _ _ (h' a' c' w' g1 g2 g3 g4 g5 g6)
theorem num_tail {B g fmt : Nat} {ps : List PartL} {ns : List Nat} {a3 ap an : Option Addr} {c3 cp cn n : Nat} {w w3 : World} (h0 : w.heap[g]? = some (.cells #[.int .i64 (fmt : Nat), .slice ap ps.length cp, .slice an ns.length cn] 216 (0, 0)))
    (ho : w3.ownsRow B 156 1 (.slice a3 (ns.length + 1) c3) (ns.length + 1) (u32V ns ++ [.int .u32 (n : Nat)])) (h1 : w.ownsRow B 218 4 (.slice ap ps.length cp) ps.length (partsL ps)) (hk : KeptE 156 w w3) (hB : B ≤ g) (hb : Below B w w3) :
    TabIs B g fmt ps (ns ++ [n]) (w3.setCell ⟨g, 2, none⟩ (.slice a3 (ns.length + 1) c3)) ∧ LKeep B g w (w3.setCell ⟨g, 2, none⟩ (.slice a3 (ns.length + 1) c3)) := by
  have hw3 := (hk.2 g _ _ _ h0 (by decide)).trans h0
  have h1' := hk.owns h1 (by decide)
  refine ⟨⟨ap, cp, a3, c3, ?_, ?_, ?_⟩, (LKeep.ofE hb hk (.inr rfl)).set hB _⟩
  · rw [set_heap_at _ hw3, List.length_append]; rfl
  · exact set_owns _ h1' (own_neE h1' hw3 (by decide))
  · rw [List.length_append, ← u32V_snoc]
    exact set_owns _ ho (own_neE ho hw3 (by decide))
set_option maxRecDepth 100000 in
set_option maxHeartbeats 1600000 in
theorem alike_any (B g fmt : Nat) (ps : List PartL) (ns : List Nat) (f l n : Nat) (zf zl zn : Int) (hzf : zf = (f : Nat)) (hzl : zl = (l : Nat)) (hzn : zn = (n : Nat)) (w : World) (h : TabIs B g fmt ps ns w) (hB : B ≤ g) (hl : ps.length ≤ 1000000) (hn : ns.length + 1 ≤ 100000000) :
    Calls Try.prog 138 #[.pointer (some ⟨g, 0, none⟩), .int .i64 zf, .int .i64 zl, .int .u32 zn] w fun e w' => ((CanAdd ps (f : Nat) (l : Nat) ∧ e = .returned (.tuple #[]) ∧ TabIs B g fmt (ps ++ [⟨f, l, ns.length, 0⟩]) (ns ++ [n]) w') ∨ (¬ CanAdd ps (f : Nat) (l : Nat) ∧ e = .panicked thrown)) ∧ LKeep B g w w' := by
  have hAC := allocC
  have hAF := allocF
  subst hzf hzl hzn
  have hBw : B ≤ w.heap.size := by
    obtain ⟨_, _, _, _, h0, _⟩ := h.is
    have := (Array.getElem?_eq_some_iff.1 h0).1
    omega
  by_cases hc : CanAdd ps (f : Nat) (l : Nat)
  case neg =>
    have HA := Lib.hid (add_bad B g fmt ps ns (f : Nat) (l : Nat) 0 w h hl hc)
    have HC := Lib.hid hc
    clear h hc
    go_enter Try.func138, Try.ntmps138
    go_wp2_with (first | (go_at_call 155; (with_reducible refine (HA.out).mono ?_); rintro e w1 ⟨rfl, hb1⟩; have h1c := bc hb1; have h1f := bf hb1; have h1z := hb1.size; try simp only [World.size_alloc, World.size_drew] at h1z))
    exact ⟨rfl, .inr ⟨HC.out, rfl⟩, LKeep.of hb1 hBw⟩
  have HA := Lib.hid (add_ok B g fmt ps ns f l 0 (f : Nat) (l : Nat) 0 rfl rfl rfl w h hB hl (by omega) hc)
  have HC := Lib.hid hc
  clear h hc
  go_enter Try.func138, Try.ntmps138
  go_wp2_with fail
  refine HA.out.mono ?_
  rintro e w1 ⟨rfl, ht, hk1⟩
  obtain ⟨ap, cp, an, cn, h0, h1, h2⟩ := ht.is
  have hg := (Array.getElem?_eq_some_iff.1 h0).1
  have c2 := cell_of_heap h0 2
  have cf := fun o => froz_of_heap h0 o
  simp only [List.getElem?_toArray, List.getElem?_cons_succ, List.getElem?_cons_zero] at c2
  have H1 := Lib.hid h1
  have H2 := Lib.hid h2
  have HK1 := Lib.hid hk1
  clear ht h1 h2 HA hk1
  generalize hps : ps ++ [⟨f, l, ns.length, 0⟩] = ps' at *
  generalize hLL : ps'.length = L at *
  generalize hNN : ns.length = M at *
  have HLL := Lib.hid hLL
  have HNN := Lib.hid hNN
  have HPS := Lib.hid hps
  clear hLL hNN hps
  go_wp2_with (first | (at_builtin; (refine wpAppL rfl _ _ 52 rfl B 156 (.int .u32 0) 1 4 Try.underlying52 u32_info rfl (by decide) _ M (u32V ns) rfl (owns_below H2.out (balloc (brefl w1) _) (Nat.le_refl _)) ⟨w1.heap.size, 0, none⟩ 1 1 [.int .u32 (n : Nat)] rfl rfl (has_alloc _ _ _) (fun u hu => by simp at hu; subst hu; rfl) (by unfold maxLen; omega) (by omega) (by simp; omega) ?_); intro a3 c3 w3 hown3 t31 t32 t33 hb3 hg3; have hk3 := KeptE.grown (owns_below H2.out (balloc (brefl w1) _) (Nat.le_refl _)) hg3; have hkw : KeptE 156 w1 w3 := (KeptE.below (balloc (brefl _) _)).trans hk3; have hw3 := (hkw.2 g _ _ _ h0 (by decide)).trans h0; have s2 := cell_of_heap hw3 2; have sf := fun o => froz_of_heap hw3 o; have HO3 := Lib.hid hown3; have HB3 := Lib.hid hb3; have HK3 := Lib.hid hkw; have hz3 := hg3.size; clear hown3 t31 t32 t33 hb3 hg3; dsimp only [Act.put]; simp only [List.setIfInBounds_toArray, List.set_cons_succ, List.set_cons_zero]))
  obtain rfl := HLL.out
  obtain rfl := HNN.out
  obtain rfl := HPS.out
  have hfin := num_tail h0 HO3.out H1.out HK3.out hB (((Below.refl B w1).alloc (by omega) _).trans HB3.out)
  refine bodyPost_end (v := .tuple #[]) (by simp [results, Try.results138, go_sem]; try rfl) rfl ⟨.inl ⟨HC.out, rfl, hfin.1⟩, HK1.out.trans hfin.2⟩
end Go.Proofs.Ytaladlaffglkeaa
end
section

/- (*Table).apart. Conditions: a table in memory whose block is above the base, bytes below it; numbers within bounds. -/
namespace Go.Proofs.Ytaladlaffglkeaa
open Go.RowKit Go.Lib

theorem number_z (a : Option Addr) (n c k s : Nat) (z zs : Int) (hz : z = (k : Nat)) (hzs : zs = (s : Nat)) (bs : List UInt8) (w : World) (h : Has w a (bytesV bs)) (hl : bs.length = n) (hs : s = 1 ∨ s = 2 ∨ s = 4) (hk : k + s ≤ n) (hn : n ≤ c) (hc : c ≤ maxLen) :
    Calls Try.prog 139 #[.agg #[.slice a n c], .int .i64 z, .int .i64 zs] w fun e w' => e = .returned (.int .u32 (num bs k s : Nat)) ∧ Below w.heap.size w w' := by
  subst hz; subst hzs; exact number_ok a n c k s bs w h hl hs hk hn hc
theorem num_takeS (bs : List UInt8) (m j : Nat) : ∀ s, j + s ≤ m → num (bs.take m) j s = num bs j s
  | 0, _ => rfl
  | s + 1, h => by
    have e : (bs.take m).getD (j + s) 0 = bs.getD (j + s) 0 := by
      simp only [List.getD_eq_getElem?_getD, List.getElem?_take]
      rw [if_pos (by omega)]
    rw [num, num, num_takeS bs m j s (by omega), e]
theorem num_dropS (bs : List UInt8) (m j : Nat) : ∀ s, num (bs.drop m) j s = num bs (m + j) s
  | 0 => rfl
  | s + 1 => by
    rw [num, num, num_dropS bs m j s]
    simp only [List.getD_eq_getElem?_getD, List.getElem?_drop, Nat.add_assoc]
theorem rows_zc (a : Option Addr) (n c k m s : Nat) (x y z : Int) (hx : x = (k : Nat)) (hy : y = (m : Nat)) (hz : z = (s : Nat)) (w : World) (hm : m ≤ 100000) (h0 : 0 < s) (h9 : s ≤ 100) (hbad : ¬ (k ≤ n ∧ m ≤ (n - k) / s)) (hn : n ≤ c) (hc : c ≤ maxLen) :
    Calls Try.prog 142 #[.agg #[.slice a n c], .int .i64 x, .int .i64 y, .int .i64 z] w fun e w' => e = .panicked thrown ∧ Below w.heap.size w w' := by
  subst hx; subst hy; subst hz
  refine rows_bad a n c _ _ _ w (by omega) (by omega) ?_ hn hc
  rintro ⟨_, h1, _, _, h2⟩
  simp only [Int.toNat_natCast] at h2
  exact hbad ⟨by omega, by omega⟩
def numsA (bs : List UInt8) (S k : Nat) : List Nat := (List.range k).map fun i => num bs (i * S) S
theorem numsA_succ (bs : List UInt8) (S k : Nat) : numsA bs S (k + 1) = numsA bs S k ++ [num bs (k * S) S] := by simp [numsA, List.range_succ]
theorem hasB {w w' : World} {a : Option Addr} {xs : List Value} {B : Nat} (h : Has w a xs) (hb : Below B w w') (ha : ∀ p, a = some p → p.block < B) : Has w' a xs := by
  intro j u hu
  obtain ⟨p, hp, hc⟩ := h j u hu
  refine ⟨p, hp, ?_⟩
  rw [World.cell?_of_block (hb.block _ (by rw [add_block]; exact ha p hp))]
  exact hc
theorem advB {a : Option Addr} {c k B : Nat} (ha : ∀ p, a = some p → p.block < B) : ∀ p, adv a c k = some p → p.block < B := by
  intro p hp
  unfold adv at hp
  split at hp
  · exact ha p hp
  · cases a with
    | none => cases hp
    | some q => cases hp; rw [add_block]; exact ha q rfl
def ApRel (B g fmt : Nat) (ps : List PartL) (ns : List Nat) (W : World) (N : Nat) (bs : List UInt8) (S : Nat) (i : Value) (wr : World) : Prop :=
  ∃ k, k ≤ N ∧ i = .int .i64 (k : Nat) ∧ TabIs B g fmt ps (ns ++ numsA bs S k) wr ∧ LKeep B g W wr
theorem TabIs.base {B g fmt : Nat} {ps : List PartL} {ns : List Nat} {w : World} (h : TabIs B g fmt ps ns w) : g < w.heap.size := by
  obtain ⟨_, _, _, _, h0, _⟩ := h.is
  exact (Array.getElem?_eq_some_iff.1 h0).1
def ApOk (ps : List PartL) (f l S n : Nat) : Prop := CanAdd ps (f : Nat) (l : Nat) ∧ (l - f + 1) * S ≤ n
set_option maxRecDepth 100000 in
set_option maxHeartbeats 3200000 in
theorem apart_any (B g fmt : Nat) (ps : List PartL) (ns : List Nat) (f l S : Nat) (zf zl zs : Int) (hzf : zf = (f : Nat)) (hzl : zl = (l : Nat)) (hzs : zs = (S : Nat)) (a : Option Addr) (n c : Nat) (bs : List UInt8) (w : World) (h : TabIs B g fmt ps ns w) (hB : B ≤ g) (hl : ps.length ≤ 1000000) (hn : ns.length ≤ 90000000)
    (hl7 : l ≤ 70000) (hS : S = 1 ∨ S = 2 ∨ S = 4) (hh : Has w a (bytesV bs)) (hbl : bs.length = n) (hnc : n ≤ c) (hc : c ≤ maxLen) (hab : ∀ p, a = some p → p.block < B) :
    Calls Try.prog 136 #[.pointer (some ⟨g, 0, none⟩), .int .i64 zf, .int .i64 zl, .agg #[.slice a n c], .int .i64 zs] w fun e w' => ((ApOk ps f l S n ∧ e = .returned (.tuple #[]) ∧ TabIs B g fmt (ps ++ [⟨f, l, ns.length, 1⟩]) (ns ++ numsA bs S (l - f + 1)) w') ∨ (¬ ApOk ps f l S n ∧ e = .panicked thrown)) ∧ LKeep B g w w' := by
  have hAC := allocC
  have hAF := allocF
  subst hzf hzl hzs
  have hg0 := h.base
  have hBw : B ≤ w.heap.size := by omega
  by_cases hca : CanAdd ps (f : Nat) (l : Nat)
  case neg =>
    have HA := Lib.hid (fun (W : World) (hW : Below w.heap.size w W) => add_bad B g fmt ps ns (f : Nat) (l : Nat) 1 W (h.below hW) hl hca)
    have HC := Lib.hid hca
    clear h hca hh
    go_enter Try.func136, Try.ntmps136
    go_wp2_with (first | (go_at_call 155; (with_reducible refine (HA.out _ (by exact blw)).mono ?_); rintro e w1 ⟨rfl, hb1⟩; have h1c := bc hb1; have h1f := bf hb1; have h1z := hb1.size; try simp only [World.size_alloc, World.size_drew] at h1z))
    have hbw : Below w.heap.size w w1 := blw
    exact ⟨rfl, .inr ⟨fun hx => HC.out hx.1, rfl⟩, LKeep.of hbw hBw⟩
  have hfl : f ≤ l := by have := hca.1; omega
  have HA := Lib.hid (fun (W : World) (hW : Below w.heap.size w W) => add_ok B g fmt ps ns f l 1 (f : Nat) (l : Nat) 1 rfl rfl rfl W (h.below hW) hB (by omega) (by omega) hca)
  have HC := Lib.hid hca
  have HH := Lib.hid hh
  have HBL := Lib.hid hbl
  have HS := Lib.hid hS
  have HAB := Lib.hid hab
  obtain ⟨N, hN⟩ : ∃ N, N = l - f + 1 := ⟨_, rfl⟩
  have hNI : (l : Int) - (f : Int) + 1 = (N : Int) := by omega
  have HN := Lib.hid hN
  have hN7 : N ≤ 70001 := by omega
  have hcm := hc
  unfold maxLen at hcm
  have hS1 : 1 ≤ S ∧ S ≤ 4 := by rcases hS with rfl | rfl | rfl <;> decide
  obtain ⟨hS1, hS4⟩ := hS1
  clear h hca hh hbl hS hN hab
  go_enter Try.func136, Try.ntmps136
  go_wp2_with fail
  refine (HA.out _ (by exact blw)).mono ?_
  rintro e w1 ⟨rfl, ht, hk1⟩
  have c8 := (hk1.kept w.heap.size _ _ _ (heap_new w (.slice a n c) 93) (by decide) (by decide) (by omega)).trans (heap_new w (.slice a n c) 93)
  have hK1 : LKeep B g w w1 := (LKeep.of (balloc (brefl w) _) hBw).trans hk1
  have hz1 := hk1.size
  simp only [World.size_alloc] at hz1
  have HT := Lib.hid ht
  have HK1 := Lib.hid hK1
  have d8 := cell_of_heap c8 0
  have f8 := froz_of_heap c8 0
  simp only [List.getElem?_toArray, List.getElem?_cons_zero] at d8
  have hg8 : w.heap.size < w1.heap.size := by omega
  clear ht hk1 hK1 HA c8
  have hdiv : (N ≤ (n - 0) / S) ↔ N * S ≤ n := by rw [Nat.le_div_iff_mul_le (by omega)]; omega
  by_cases hfit : N * S ≤ n
  case neg =>
    have HRB := Lib.hid (fun W => rows_zc a n c 0 N S 0 (N : Int) (S : Int) rfl rfl rfl W (by omega) (by omega) (by omega) (fun hx => hfit (hdiv.1 hx.2)) hnc hc)
    have HNF := Lib.hid (show ¬ ApOk ps f l S n from fun hx => hfit (by rw [HN.out]; exact hx.2))
    clear hdiv hfit
    go_wp2_with (first | (go_at_call 142; (with_reducible refine (HRB.out _).mono ?_); rintro e w2 ⟨rfl, hb2⟩; have h2c := bc hb2; have h2f := bf hb2; have h2z := hb2.size; try simp only [World.size_alloc, World.size_drew] at h2z))
    exact ⟨rfl, .inr ⟨HNF.out, rfl⟩, HK1.out.trans (LKeep.of hb2 (by omega))⟩
  have HRW := Lib.hid (fun W => rows_z a n c 0 N S (N * S) 0 (N : Int) (S : Int) rfl rfl rfl W rfl (by omega) (.inr (hdiv.2 hfit)) (by omega) (by omega) hnc hc)
  have HOK := Lib.hid (show ApOk ps f l S n from ⟨HC.out, by rw [← HN.out]; exact hfit⟩)
  clear hdiv
  go_wp2_with (first | (go_at_call 142; (with_reducible refine (HRW.out _).mono ?_); rintro e w2 ⟨rfl, hb2⟩; have h2c := bc hb2; have h2f := bf hb2; have h2z := hb2.size; try simp only [World.size_alloc, World.size_drew] at h2z))
  obtain ⟨W, hW⟩ : ∃ W, W = w2.alloc (Obj.cells #[.slice (adv a c 0) (N * S) c] 93) := ⟨_, rfl⟩
  have c11 : W.heap[w2.heap.size]? = some (.cells #[.slice (adv a c 0) (N * S) c] 93 (0, 0)) := by rw [hW]; exact heap_new _ _ _
  have hb12 : Below w1.heap.size w1 W := by rw [hW]; exact blw
  have HT2 := Lib.hid (HT.out.below hb12)
  have HK2 := Lib.hid (HK1.out.trans (LKeep.of hb12 (by omega)))
  have hg11 : w2.heap.size ≠ g := by have := HT.out.base; omega
  have HHW := Lib.hid (hasB HH.out HK2.out.below HAB.out)
  have HC11 := Lib.hid c11
  rw [← hW]
  clear hW c11 hb12 HT HK1 d8 f8 h2c h2f hb2 HRW
  generalize hp11 : w2.heap.size = g11 at *
  clear hp11
  generalize hps : ps ++ [⟨f, l, ns.length, 1⟩] = ps' at *
  have hpl : ps'.length ≤ 1000001 := by rw [← hps]; simp; omega
  have HPS := Lib.hid hps
  clear hps
  have HB := Lib.hid hB
  have HNS := Lib.hid hn
  go_loopw [26] (ApRel B g fmt ps' ns W N bs S) (fun i _ => N - (Go.RowKit.intOf i).toNat)
  case atStart => exact ⟨0, Nat.zero_le _, rfl, by simpa [numsA] using HT2.out, LKeep.refl _ _ _⟩
  case round =>
    obtain ⟨k, hkN, rfl, htk, hkk⟩ := hrel
    have HKK := Lib.hid hkk
    by_cases hlt : k < N
    · obtain ⟨ap, cp, an, cn, h0, h1, h2⟩ := htk.is
      have hgw := (Array.getElem?_eq_some_iff.1 h0).1
      have h11 := (hkk.kept g11 _ _ _ HC11.out (by decide) (by decide) hg11).trans HC11.out
      have h11l := (Array.getElem?_eq_some_iff.1 h11).1
      have r2 := cell_of_heap h0 2
      have rf := fun o => froz_of_heap h0 o
      have r11 := cell_of_heap h11 0
      simp only [List.getElem?_toArray, List.getElem?_cons_zero, List.getElem?_cons_succ] at r2 r11
      have H1 := Lib.hid h1
      have H2 := Lib.hid h2
      have hq9 : k * S + S ≤ N * S := by rw [← Nat.succ_mul]; exact Nat.mul_le_mul_right _ hlt
      obtain ⟨q, hq⟩ : ∃ q, q = k * S := ⟨_, rfl⟩
      rw [← hq] at hq9
      have hq1 : IntKind.i64.wrap ((k : Int) * (S : Int)) = (q : Int) := by rw [← Int.natCast_mul, ← hq]; exact IntWalk.i64_in _ (by omega)
      have hq2 : wrap64 ((k : Int) * (S : Int)) = (q : Int) := by rw [← IntWalk.i64_left]; exact hq1
      obtain ⟨p, hp⟩ : ∃ p, p = N * S := ⟨_, rfl⟩
      have hbt := ((hasB HHW.out hkk.below HAB.out).adv c 0 (by rw [bytesV_length, HBL.out]; exact hnc)).take (N * S)
      rw [bytesV_drop, bytesV_take, List.drop_zero] at hbt
      have hT4 : (bs.take (N * S)).length = N * S := by rw [List.length_take, HBL.out]; omega
      have hU := number_z (adv a c 0) (N * S) c q S (q : Int) (S : Int) rfl rfl (bs.take (N * S)) wr.drew (hbt.below (bdrew1 (brefl wr))) hT4 HS.out (by omega) (by omega) (by unfold maxLen; omega)
      rw [num_takeS bs (N * S) q S hq9] at hU
      have HU := Lib.hid hU
      have HNU := Lib.hid (show ns ++ numsA bs S (k + 1) = (ns ++ numsA bs S k) ++ [num bs q S] by rw [numsA_succ, hq, List.append_assoc])
      have hML : (ns ++ numsA bs S k).length ≤ 95000000 := by rw [List.length_append]; simp [numsA]; have := HNS.out; omega
      have HLT := Lib.hid hlt
      clear hbt hT4 hU hq htk hkk h1 h2
      generalize num bs q S = x at *
      generalize hMM : ns ++ numsA bs S k = nk at *
      generalize hLL : ps'.length = L at *
      generalize hNN : nk.length = M at *
      have HLL := Lib.hid hLL
      have HNN := Lib.hid hNN
      clear hLL hNN hMM
      go_wp2_with fail
      refine wp_region_last (.step 0 (.step 1 (.step 2 (.step 3 (.step 4 (.step 5 (.step 6 (.step 7 (.step 8 (.step 9 (.step 10 (.step 11 (.step 12 (.step 13 (.step 14 (.step 15 .nil)))))))))))))))) 15 (by kernel_rfl) (by kernel_rfl) (by kernel_rfl) (by kernel_rfl) (by kernel_rfl) (by intro _ _ d_ _ _ h_; cases d_ <;> first | exact h_ | (dsimp +zetaDelta only at h_ ⊢; exact h_)) (fun w' => ∃ p : KepE 156 wr, w' = p.val) (kepE_start _ _) ?_
      have hK0_ := fun (p : KepE 156 wr) (o : Nat) => p.is.cell h0 (by decide) o
      have hK1_ := fun (p : KepE 156 wr) (o : Nat) => p.is.cell h11 (by decide) o
      (refine z_quiet gtA (by rfl) (by rfl) (fun K_ hK_ => ?_); go_big_quiet_op; refine hK_ _ ?_; clear hK_ K_)
      (refine z_quiet gtA (by rfl) (by rfl) (fun K_ hK_ => ?_); go_big_quiet_op; refine hK_ _ ?_; clear hK_ K_)
      (refine z_quiet gtA (by rfl) (by rfl) (fun K_ hK_ => ?_); go_big_quiet_op; refine hK_ _ ?_; clear hK_ K_)
      (refine z_quiet gtA (by rfl) (by rfl) (fun K_ hK_ => ?_); go_big_quiet_op; refine hK_ _ ?_; clear hK_ K_)
      (refine z_quiet gtA (by rfl) (by rfl) (fun K_ hK_ => ?_); go_big_quiet_op; refine hK_ _ ?_; clear hK_ K_)
      (refine z_quiet gtA (by rfl) (by rfl) (fun K_ hK_ => ?_); go_big_quiet_op; refine hK_ _ ?_; clear hK_ K_)
      (refine z_quiet gtA (by rfl) (by rfl) (fun K_ hK_ => ?_); go_big_quiet_op; refine hK_ _ ?_; clear hK_ K_)
      (refine z_quiet gtA (by rfl) (by rfl) (fun K_ hK_ => ?_); go_big_quiet_op; refine hK_ _ ?_; clear hK_ K_)
      (refine z_quiet gtA (by rfl) (by rfl) (fun K_ hK_ => ?_); go_big_quiet_op; refine hK_ _ ?_; clear hK_ K_)
      (refine z_quiet gtA (by rfl) (by rfl) (fun K_ hK_ => ?_); go_big_quiet_op; refine hK_ _ ?_; clear hK_ K_)
      (refine z_run gtA (by rfl) (by rfl) (fun K_ hK_ => ?_); have HK_ := Lib.hid hK_; clear hK_; (first | ((refine wpAppO _ _ 52 rfl B 156 (.int .u32 0) 1 4 Try.underlying52 u32_info rfl (by decide) _ M (u32V nk) rfl (owns_below H2.out (bthen (bdrew1 (brefl wr)) (balloc hbu _)) (Nat.le_refl _)) ⟨wu.heap.size, 0, none⟩ 1 1 [.int .u32 (x : Nat)] rfl rfl (has_alloc _ _ _) (fun u hu => by simp at hu; subst hu; rfl) (by unfold maxLen; omega) (by omega) (by simp; omega) ?_; intro a3 c3 w3 hown3 t31 t32 t33 hb3 hg3; have hk3 := KeptE.grown (owns_below H2.out (bthen (bdrew1 (brefl wr)) (balloc hbu _)) (Nat.le_refl _)) hg3; have hkw : KeptE 156 wr w3 := ((KeptE.below (bdrew1 (brefl wr))).trans (KeptE.below hbu)).trans ((KeptE.below (balloc (brefl wu) _)).trans hk3); have hw3 := (hkw.2 g _ _ _ h0 (by decide)).trans h0; have s2 := cell_of_heap hw3 2; have sf := fun o => froz_of_heap hw3 o; have HO3 := Lib.hid hown3; have HB3 := Lib.hid hb3; have HK3 := Lib.hid hkw; have hz3 := hg3.size; clear hown3 t31 t32 t33 hb3 hg3; dsimp only [Act.put]; simp only [List.setIfInBounds_toArray, List.set_cons_succ, List.set_cons_zero])) | (go_wp2_with ((go_at_call 139; (with_reducible refine HU.out.mono ?_); rintro r wu ⟨rfl, hbu⟩; have huz := hbu.size; simp only [World.size_drew] at huz)))); refine HK_.out _ _ (kepE_of (by repeat (first | exact KeptE.refl _ _ | assumption | refine KeptE.trans ?_ (KeptE.below (bdrew1 (brefl _))) | refine KeptE.trans ?_ (KeptE.below (balloc (brefl _) _)) | refine KeptE.trans ?_ (KeptE.below (by assumption)) | refine KeptE.trans ?_ (by assumption)))) ?_; clear HK_)
      (refine z_run gtA (by rfl) (by rfl) (fun K_ hK_ => ?_); have HK_ := Lib.hid hK_; clear hK_; (first | ((refine wpAppO _ _ 52 rfl B 156 (.int .u32 0) 1 4 Try.underlying52 u32_info rfl (by decide) _ M (u32V nk) rfl (owns_below H2.out (bthen (bdrew1 (brefl wr)) (balloc hbu _)) (Nat.le_refl _)) ⟨wu.heap.size, 0, none⟩ 1 1 [.int .u32 (x : Nat)] rfl rfl (has_alloc _ _ _) (fun u hu => by simp at hu; subst hu; rfl) (by unfold maxLen; omega) (by omega) (by simp; omega) ?_; intro a3 c3 w3 hown3 t31 t32 t33 hb3 hg3; have hk3 := KeptE.grown (owns_below H2.out (bthen (bdrew1 (brefl wr)) (balloc hbu _)) (Nat.le_refl _)) hg3; have hkw : KeptE 156 wr w3 := ((KeptE.below (bdrew1 (brefl wr))).trans (KeptE.below hbu)).trans ((KeptE.below (balloc (brefl wu) _)).trans hk3); have hw3 := (hkw.2 g _ _ _ h0 (by decide)).trans h0; have s2 := cell_of_heap hw3 2; have sf := fun o => froz_of_heap hw3 o; have HO3 := Lib.hid hown3; have HB3 := Lib.hid hb3; have HK3 := Lib.hid hkw; have hz3 := hg3.size; clear hown3 t31 t32 t33 hb3 hg3; dsimp only [Act.put]; simp only [List.setIfInBounds_toArray, List.set_cons_succ, List.set_cons_zero])) | (go_wp2_with ((go_at_call 139; (with_reducible refine HU.out.mono ?_); rintro r wu ⟨rfl, hbu⟩; have huz := hbu.size; simp only [World.size_drew] at huz)))); refine HK_.out _ _ (kepE_of (by repeat (first | exact KeptE.refl _ _ | assumption | refine KeptE.trans ?_ (KeptE.below (bdrew1 (brefl _))) | refine KeptE.trans ?_ (KeptE.below (balloc (brefl _) _)) | refine KeptE.trans ?_ (KeptE.below (by assumption)) | refine KeptE.trans ?_ (by assumption)))) ?_; clear HK_)
      (refine z_run gtA (by rfl) (by rfl) (fun K_ hK_ => ?_); have HK_ := Lib.hid hK_; clear hK_; (first | ((refine wpAppO _ _ 52 rfl B 156 (.int .u32 0) 1 4 Try.underlying52 u32_info rfl (by decide) _ M (u32V nk) rfl (owns_below H2.out (bthen (bdrew1 (brefl wr)) (balloc hbu _)) (Nat.le_refl _)) ⟨wu.heap.size, 0, none⟩ 1 1 [.int .u32 (x : Nat)] rfl rfl (has_alloc _ _ _) (fun u hu => by simp at hu; subst hu; rfl) (by unfold maxLen; omega) (by omega) (by simp; omega) ?_; intro a3 c3 w3 hown3 t31 t32 t33 hb3 hg3; have hk3 := KeptE.grown (owns_below H2.out (bthen (bdrew1 (brefl wr)) (balloc hbu _)) (Nat.le_refl _)) hg3; have hkw : KeptE 156 wr w3 := ((KeptE.below (bdrew1 (brefl wr))).trans (KeptE.below hbu)).trans ((KeptE.below (balloc (brefl wu) _)).trans hk3); have hw3 := (hkw.2 g _ _ _ h0 (by decide)).trans h0; have s2 := cell_of_heap hw3 2; have sf := fun o => froz_of_heap hw3 o; have HO3 := Lib.hid hown3; have HB3 := Lib.hid hb3; have HK3 := Lib.hid hkw; have hz3 := hg3.size; clear hown3 t31 t32 t33 hb3 hg3; dsimp only [Act.put]; simp only [List.setIfInBounds_toArray, List.set_cons_succ, List.set_cons_zero])) | (go_wp2_with ((go_at_call 139; (with_reducible refine HU.out.mono ?_); rintro r wu ⟨rfl, hbu⟩; have huz := hbu.size; simp only [World.size_drew] at huz)))); refine HK_.out _ _ (kepE_of (by repeat (first | exact KeptE.refl _ _ | assumption | refine KeptE.trans ?_ (KeptE.below (bdrew1 (brefl _))) | refine KeptE.trans ?_ (KeptE.below (balloc (brefl _) _)) | refine KeptE.trans ?_ (KeptE.below (by assumption)) | refine KeptE.trans ?_ (by assumption)))) ?_; clear HK_)
      (refine z_quiet gtA (by rfl) (by rfl) (fun K_ hK_ => ?_); go_big_quiet_op; refine hK_ _ ?_; clear hK_ K_)
      (refine z_quiet gtA (by rfl) (by rfl) (fun K_ hK_ => ?_); go_big_quiet_op; refine hK_ _ ?_; clear hK_ K_)
      (refine z_last gtA (by rfl) (by rfl) (by rfl) (fun K_ hK_ => ?_); have HK_ := Lib.hid hK_; clear hK_; (first | ((refine wpAppO _ _ 52 rfl B 156 (.int .u32 0) 1 4 Try.underlying52 u32_info rfl (by decide) _ M (u32V nk) rfl (owns_below H2.out (bthen (bdrew1 (brefl wr)) (balloc hbu _)) (Nat.le_refl _)) ⟨wu.heap.size, 0, none⟩ 1 1 [.int .u32 (x : Nat)] rfl rfl (has_alloc _ _ _) (fun u hu => by simp at hu; subst hu; rfl) (by unfold maxLen; omega) (by omega) (by simp; omega) ?_; intro a3 c3 w3 hown3 t31 t32 t33 hb3 hg3; have hk3 := KeptE.grown (owns_below H2.out (bthen (bdrew1 (brefl wr)) (balloc hbu _)) (Nat.le_refl _)) hg3; have hkw : KeptE 156 wr w3 := ((KeptE.below (bdrew1 (brefl wr))).trans (KeptE.below hbu)).trans ((KeptE.below (balloc (brefl wu) _)).trans hk3); have hw3 := (hkw.2 g _ _ _ h0 (by decide)).trans h0; have s2 := cell_of_heap hw3 2; have sf := fun o => froz_of_heap hw3 o; have HO3 := Lib.hid hown3; have HB3 := Lib.hid hb3; have HK3 := Lib.hid hkw; have hz3 := hg3.size; clear hown3 t31 t32 t33 hb3 hg3; dsimp only [Act.put]; simp only [List.setIfInBounds_toArray, List.set_cons_succ, List.set_cons_zero])) | (go_wp2_with ((go_at_call 139; (with_reducible refine HU.out.mono ?_); rintro r wu ⟨rfl, hbu⟩; have huz := hbu.size; simp only [World.size_drew] at huz)))); refine HK_.out _ _ ?_; clear HK_)
      refine z_nil ?_
      clear hK0_ hK1_
      obtain rfl := HLL.out
      obtain rfl := HNN.out
      have hbB : Below B wr w3 := (((Below.refl B wr).drew.trans (hbu.mono (by simp; omega))).alloc (by omega) _).trans HB3.out
      have hfin := num_tail h0 HO3.out H1.out HK3.out HB.out hbB
      rw [← HNU.out] at hfin
      have HF1 := Lib.hid hfin.1
      have HF2 := Lib.hid (HKK.out.trans hfin.2)
      clear hfin
      obtain ⟨X, hX⟩ : ∃ X, X = w3.setCell ⟨g, 2, none⟩ (.slice a3 (nk.length + 1) c3) := ⟨_, rfl⟩
      rw [← hX] at HF1 HF2 ⊢
      clear hX
      go_wp2_with fail
      go_roundw
      case rel => exact ⟨k + 1, HLT.out, by go_num, HF1.out, HF2.out⟩
      case measure => simp [Go.RowKit.intOf]; have := HLT.out; omega
    · obtain rfl : k = N := by omega
      clear hkk
      go_wp2_with fail
      refine bodyPost_end (v := .tuple #[]) (by simp [results, Try.results136, go_sem]; try rfl) rfl ⟨.inl ⟨HOK.out, rfl, ?_⟩, HK2.out.trans HKK.out⟩
      rw [HPS.out, ← HN.out]
      exact htk
end Go.Proofs.Ytaladlaffglkeaa
end
section

/- (*Table).trim of an empty table. Conditions: a table in memory whose block is above the base, bytes below it. -/
namespace Go.Proofs.Ytaladlaffglkeaa
open Go.RowKit Go.Lib

theorem rest_z (a : Option Addr) (n c k : Nat) (z : Int) (hz : z = (k : Nat)) (w : World) (hk : k ≤ n) (hn : n ≤ c) (hc : c ≤ maxLen) :
    Calls Try.prog 87 #[.agg #[.slice a n c], .int .i64 z] w fun e w' => e = .returned (.agg #[.slice (adv a c k) (n - k) (c - k)]) ∧ Below w.heap.size w w' := by
  subst hz; exact rest_ok a n c k w hk hn hc
def TrimOk (bs : List UInt8) (S : Nat) : Prop := 4 ≤ bs.length ∧ num bs 0 2 + num bs 2 2 ≤ 65536 ∧ num bs 2 2 * S ≤ bs.length - 4
def trimPs (f m : Nat) : List PartL := if m = 0 then [] else [⟨f, f + m - 1, 0, 1⟩]
theorem canAdd_nil (f l : Int) : CanAdd [] f l ↔ f ≤ l := ⟨fun h => h.1, fun h => ⟨h, fun p hp => by simp at hp⟩⟩
set_option maxRecDepth 100000 in
set_option maxHeartbeats 3200000 in
theorem trim_any (B g fmt : Nat) (S : Nat) (zs : Int) (hzs : zs = (S : Nat)) (a : Option Addr) (n c : Nat) (bs : List UInt8) (w : World) (h : TabIs B g fmt [] [] w) (hB : B ≤ g) (hS : S = 1 ∨ S = 2 ∨ S = 4) (hh : Has w a (bytesV bs)) (hbl : bs.length = n) (hnc : n ≤ c) (hc : c ≤ maxLen) (hab : ∀ p, a = some p → p.block < B) :
    Calls Try.prog 140 #[.pointer (some ⟨g, 0, none⟩), .agg #[.slice a n c], .int .i64 zs] w fun e w' => ((TrimOk bs S ∧ e = .returned (.tuple #[]) ∧ TabIs B g fmt (trimPs (num bs 0 2) (num bs 2 2)) (numsA (bs.drop 4) S (num bs 2 2)) w') ∨ (¬ TrimOk bs S ∧ e = .panicked thrown)) ∧ LKeep B g w w' := by
  have hAC := allocC
  have hAF := allocF
  subst hzs
  have hg0 := h.base
  have hBw : B ≤ w.heap.size := by omega
  have HT := Lib.hid h
  have HH := Lib.hid hh
  have HBL := Lib.hid hbl
  have HAB := Lib.hid hab
  have HS := Lib.hid hS
  have hcm := hc
  unfold maxLen at hcm
  clear h hh hbl hab hS
  by_cases h2 : 2 ≤ n
  case neg =>
    have HU := Lib.hid (fun W => u16_bad a n c 0 W (by omega) hnc hc)
    have HNO := Lib.hid (show ¬ TrimOk bs S from fun hx => by have := hx.1; rw [HBL.out] at this; omega)
    go_enter Try.func140, Try.ntmps140
    go_wp2_with fail
    obtain ⟨U, hU⟩ : ∃ U, U = w.alloc (Obj.cells #[.slice a n c] 93) := ⟨_, rfl⟩
    have c8 : U.cell? ⟨w.heap.size, 0, none⟩ = some (.slice a n c) := by rw [hU]; simp [hAC]
    have HBU := Lib.hid (show Below w.heap.size w U by rw [hU]; exact blw)
    have hz : U.heap.size = w.heap.size + 1 := by rw [hU]; simp
    rw [← hU]
    clear hU
    refine wp_region_tree (.step 0 (.step 2 (.step 1 (.step 3 (.step 4 (.step 5 .nil)))))) (by kernel_rfl) (by kernel_rfl) (by kernel_rfl) (by kernel_rfl) (by intro _ _ d_ _ _ h_; cases d_ <;> first | exact h_ | (dsimp +zetaDelta only at h_ ⊢; exact h_)) (fun w' => ∃ p : BelW U.heap.size U, w' = p.val) (bel_start _ _) ?_
    have hG_ := @belC U.heap.size U
    (refine tree_quiet gtA (by rfl) (by rfl) (fun K_ hK_ => ?_); go_big_quiet_op; refine hK_ _ ?_; clear hK_ K_)
    (refine tree_quiet gtA (by rfl) (by rfl) (fun K_ hK_ => ?_); go_big_quiet_op; refine hK_ _ ?_; clear hK_ K_)
    (refine tree_run gtA (by rfl) (by rfl) (fun K_ hK_ => ?_); have HK_ := Lib.hid hK_; clear hK_; go_wp2_with (first | (go_at_call 95; (with_reducible refine (HU.out _).mono ?_); rintro e wa ⟨rfl, hba⟩; have hac := bc hba; have haf := bf hba; have haz := hba.size; try simp only [World.size_alloc, World.size_drew] at haz)); exact ⟨rfl, .inr ⟨HNO.out, rfl⟩, LKeep.of (HBU.out.trans (Below.mono (show Below U.heap.size U _ by repeat (first | exact Below.refl _ _ | assumption | refine bdrew1q ?_ | refine balloc ?_ _ | refine bthen ?_ (by assumption) | refine Below.trans ?_ (by assumption))) HBU.out.size)) (by omega)⟩)
  by_cases h4 : 4 ≤ n
  case neg =>
    have HU0 := Lib.hid (fun W hw => u16_z a n c 0 0 rfl bs W hw HBL.out (by omega) hnc hc)
    have HU2 := Lib.hid (fun W => u16_bad a n c 2 W (by omega) hnc hc)
    have HNO := Lib.hid (show ¬ TrimOk bs S from fun hx => by have := hx.1; rw [HBL.out] at this; omega)
    go_enter Try.func140, Try.ntmps140
    go_wp2_with fail
    obtain ⟨U, hU⟩ : ∃ U, U = w.alloc (Obj.cells #[.slice a n c] 93) := ⟨_, rfl⟩
    have c8 : U.cell? ⟨w.heap.size, 0, none⟩ = some (.slice a n c) := by rw [hU]; simp [hAC]
    have HBU := Lib.hid (show Below w.heap.size w U by rw [hU]; exact blw)
    have HHU := Lib.hid (HH.out.below HBU.out)
    have hz : U.heap.size = w.heap.size + 1 := by rw [hU]; simp
    rw [← hU]
    clear hU
    refine wp_region_tree (.step 0 (.step 2 (.step 1 (.step 3 (.step 4 (.step 5 .nil)))))) (by kernel_rfl) (by kernel_rfl) (by kernel_rfl) (by kernel_rfl) (by intro _ _ d_ _ _ h_; cases d_ <;> first | exact h_ | (dsimp +zetaDelta only at h_ ⊢; exact h_)) (fun w' => ∃ p : BelW U.heap.size U, w' = p.val) (bel_start _ _) ?_
    have hG_ := @belC U.heap.size U
    (refine tree_quiet gtA (by rfl) (by rfl) (fun K_ hK_ => ?_); go_big_quiet_op; refine hK_ _ ?_; clear hK_ K_)
    (refine tree_quiet gtA (by rfl) (by rfl) (fun K_ hK_ => ?_); go_big_quiet_op; refine hK_ _ ?_; clear hK_ K_)
    (refine tree_run gtA (by rfl) (by rfl) (fun K_ hK_ => ?_); have HK_ := Lib.hid hK_; clear hK_; go_wp2_with (first | (go_at_call 95; (with_reducible refine (HU0.out _ (HHU.out.below (by repeat (first | exact Below.refl _ _ | assumption | refine bdrew1q ?_ | refine balloc ?_ _ | refine bthen ?_ (by assumption) | refine Below.trans ?_ (by assumption))))).mono ?_); rintro e wa ⟨rfl, hba⟩; have hac := bc hba; have haf := bf hba; have haz := hba.size; try simp only [World.size_alloc, World.size_drew] at haz) | (go_at_call 95; (with_reducible refine (HU2.out _).mono ?_); rintro e wb ⟨rfl, hbb⟩; have hbc := bc hbb; have hbf := bf hbb; have hbz := hbb.size; try simp only [World.size_alloc, World.size_drew] at hbz)); refine HK_.out _ _ (bel_ofA) ?_; clear HK_)
    (refine tree_run gtA (by rfl) (by rfl) (fun K_ hK_ => ?_); have HK_ := Lib.hid hK_; clear hK_; go_wp2_with (first | (go_at_call 95; (with_reducible refine (HU0.out _ (HHU.out.below (by repeat (first | exact Below.refl _ _ | assumption | refine bdrew1q ?_ | refine balloc ?_ _ | refine bthen ?_ (by assumption) | refine Below.trans ?_ (by assumption))))).mono ?_); rintro e wa ⟨rfl, hba⟩; have hac := bc hba; have haf := bf hba; have haz := hba.size; try simp only [World.size_alloc, World.size_drew] at haz) | (go_at_call 95; (with_reducible refine (HU2.out _).mono ?_); rintro e wb ⟨rfl, hbb⟩; have hbc := bc hbb; have hbf := bf hbb; have hbz := hbb.size; try simp only [World.size_alloc, World.size_drew] at hbz)); exact ⟨rfl, .inr ⟨HNO.out, rfl⟩, LKeep.of (HBU.out.trans (Below.mono (show Below U.heap.size U _ by repeat (first | exact Below.refl _ _ | assumption | refine bdrew1q ?_ | refine balloc ?_ _ | refine bthen ?_ (by assumption) | refine Below.trans ?_ (by assumption))) HBU.out.size)) (by omega)⟩)
  have HU0 := Lib.hid (fun W hw => u16_z a n c 0 0 rfl bs W hw HBL.out (by omega) hnc hc)
  have HU2 := Lib.hid (fun W hw => u16_z a n c 2 2 rfl bs W hw HBL.out (by omega) hnc hc)
  have HRE := Lib.hid (fun W => rest_z a n c 4 4 rfl W h4 hnc hc)
  have hf := num2_lt bs 0
  have hm := num2_lt bs 2
  have HF := Lib.hid (show ∃ x, x = num bs 0 2 from ⟨_, rfl⟩)
  have HTO := Lib.hid (show TrimOk bs S ↔ num bs 0 2 + num bs 2 2 ≤ 65536 ∧ num bs 2 2 * S ≤ n - 4 from ⟨fun hx => ⟨hx.2.1, by have := hx.2.2; rw [HBL.out] at this; exact this⟩, fun hx => ⟨by rw [HBL.out]; exact h4, hx.1, by rw [HBL.out]; exact hx.2⟩⟩)
  generalize num bs 0 2 = f at *
  generalize num bs 2 2 = m at *
  go_enter Try.func140, Try.ntmps140
  go_wp2_with fail
  obtain ⟨U, hU⟩ : ∃ U, U = w.alloc (Obj.cells #[.slice a n c] 93) := ⟨_, rfl⟩
  have c8 : U.cell? ⟨w.heap.size, 0, none⟩ = some (.slice a n c) := by rw [hU]; simp [hAC]
  have HBU := Lib.hid (show Below w.heap.size w U by rw [hU]; exact blw)
  have HHU := Lib.hid (HH.out.below HBU.out)
  have hz : U.heap.size = w.heap.size + 1 := by rw [hU]; simp
  rw [← hU]
  clear hU
  refine wp_region_tree (.step 0 (.step 2 (.step 1 (.step 3 (.step 4 (.step 5 .nil)))))) (by kernel_rfl) (by kernel_rfl) (by kernel_rfl) (by kernel_rfl) (by intro _ _ d_ _ _ h_; cases d_ <;> first | exact h_ | (dsimp +zetaDelta only at h_ ⊢; exact h_)) (fun w' => ∃ p : BelW U.heap.size U, w' = p.val) (bel_start _ _) ?_
  have hG_ := @belC U.heap.size U
  (refine tree_quiet gtA (by rfl) (by rfl) (fun K_ hK_ => ?_); go_big_quiet_op; refine hK_ _ ?_; clear hK_ K_)
  (refine tree_quiet gtA (by rfl) (by rfl) (fun K_ hK_ => ?_); go_big_quiet_op; refine hK_ _ ?_; clear hK_ K_)
  (refine tree_run gtA (by rfl) (by rfl) (fun K_ hK_ => ?_); have HK_ := Lib.hid hK_; clear hK_; go_wp2_with (first | (go_at_call 95; (with_reducible refine (HU0.out _ (HHU.out.below (by repeat (first | exact Below.refl _ _ | assumption | refine bdrew1q ?_ | refine balloc ?_ _ | refine bthen ?_ (by assumption) | refine Below.trans ?_ (by assumption))))).mono ?_); rintro e wa ⟨rfl, hba⟩; have hac := bc hba; have haf := bf hba; have haz := hba.size; try simp only [World.size_alloc, World.size_drew] at haz) | (go_at_call 95; (with_reducible refine (HU2.out _ (HHU.out.below (by repeat (first | exact Below.refl _ _ | assumption | refine bdrew1q ?_ | refine balloc ?_ _ | refine bthen ?_ (by assumption) | refine Below.trans ?_ (by assumption))))).mono ?_); rintro e wb ⟨rfl, hbb⟩; have hbc := bc hbb; have hbf := bf hbb; have hbz := hbb.size; try simp only [World.size_alloc, World.size_drew] at hbz)); refine HK_.out _ _ (bel_ofA) ?_; clear HK_)
  (refine tree_run gtA (by rfl) (by rfl) (fun K_ hK_ => ?_); have HK_ := Lib.hid hK_; clear hK_; go_wp2_with (first | (go_at_call 95; (with_reducible refine (HU0.out _ (HHU.out.below (by repeat (first | exact Below.refl _ _ | assumption | refine bdrew1q ?_ | refine balloc ?_ _ | refine bthen ?_ (by assumption) | refine Below.trans ?_ (by assumption))))).mono ?_); rintro e wa ⟨rfl, hba⟩; have hac := bc hba; have haf := bf hba; have haz := hba.size; try simp only [World.size_alloc, World.size_drew] at haz) | (go_at_call 95; (with_reducible refine (HU2.out _ (HHU.out.below (by repeat (first | exact Below.refl _ _ | assumption | refine bdrew1q ?_ | refine balloc ?_ _ | refine bthen ?_ (by assumption) | refine Below.trans ?_ (by assumption))))).mono ?_); rintro e wb ⟨rfl, hbb⟩; have hbc := bc hbb; have hbf := bf hbb; have hbz := hbb.size; try simp only [World.size_alloc, World.size_drew] at hbz)); refine HK_.out _ _ (bel_ofA) ?_; clear HK_)
  (refine tree_quiet gtA (by rfl) (by rfl) (fun K_ hK_ => ?_); go_big_quiet_op; refine hK_ _ ?_; clear hK_ K_)
  (refine tree_quiet gtA (by rfl) (by rfl) (fun K_ hK_ => ?_); go_big_quiet_op; refine hK_ _ ?_; clear hK_ K_)
  refine tree_nil ?_
  clear hG_
  have hbV : Below U.heap.size U wb := by repeat (first | exact Below.refl _ _ | assumption | refine bdrew1q ?_ | refine balloc ?_ _ | refine bthen ?_ (by assumption) | refine Below.trans ?_ (by assumption))
  have c8b := (hbV.cell (p := ⟨w.heap.size, 0, none⟩) (by show w.heap.size < U.heap.size; omega)).trans c8
  have hbW := HBU.out.trans (hbV.mono HBU.out.size)
  have hzb := hbV.size
  have HBW := Lib.hid hbW
  have HTW := Lib.hid (HT.out.below hbW)
  have HHW := Lib.hid (HH.out.below hbW)
  have hlw : w.heap.size < wb.heap.size := by omega
  clear c8 hbV hbW hba hbb hac haf hbc hbf HU0 HU2 HBU HHU hz hzb
  try clear haz hbz
  rename_i wa_
  by_cases hfm : f + m ≤ 65536
  case neg =>
    have HNO := Lib.hid (show ¬ TrimOk bs S from fun hx => hfm (HTO.out.1 hx).1)
    go_wp2_with (first | (go_at_call 94; refine (need_f _ (by first | rfl | (simp; omega)) _).mono ?_; rintro e w_ ⟨rfl, rfl⟩))
    exact ⟨rfl, .inr ⟨HNO.out, rfl⟩, LKeep.of HBW.out hBw⟩
  by_cases hm0 : m = 0
  · subst hm0
    have HOK := Lib.hid (HTO.out.2 ⟨hfm, by omega⟩)
    go_wp2_with (first | (go_at_call 94; refine (need_t _ (by first | rfl | (simp; omega)) _).mono ?_; rintro e w_ ⟨rfl, rfl⟩))
    refine bodyPost_end (v := .tuple #[]) (by simp [results, Try.results140, go_sem]; try rfl) rfl ⟨.inl ⟨HOK.out, rfl, ?_⟩, LKeep.of HBW.out hBw⟩
    exact HTW.out
  · have hmI : (0 : Int) < (m : Int) := by omega
    have HA := Lib.hid (fun (W : World) (hW : Below wb.heap.size wb W) => apart_any B g fmt [] [] f (f + m - 1) S (f : Int) ((f : Int) + (m : Int) - 1) (S : Int) rfl (by omega) rfl (adv a c 4) (n - 4) (c - 4) (bs.drop 4) W (HTW.out.below hW) hB (by simp) (by simp) (by omega) HS.out (by have := ((HHW.out.below hW).adv c 4 (by rw [bytesV_length, HBL.out]; exact hnc)); rw [bytesV_drop] at this; exact this) (by rw [List.length_drop, HBL.out]) (by omega) (by unfold maxLen; omega) (advB HAB.out))
    have HAO := Lib.hid (show ApOk [] f (f + m - 1) S (n - 4) ↔ m * S ≤ n - 4 from by unfold ApOk; rw [canAdd_nil, show f + m - 1 - f + 1 = m by omega]; exact ⟨fun hx => hx.2, fun hx => ⟨by omega, hx⟩⟩)
    have HTP := Lib.hid (show trimPs f m = [⟨f, f + m - 1, 0, 1⟩] from by simp [trimPs, hm0])
    have HNU := Lib.hid (show f + m - 1 - f + 1 = m by omega)
    go_wp2_with (first | (go_at_call 94; refine (need_t _ (by first | rfl | (simp; omega)) _).mono ?_; rintro e w_ ⟨rfl, rfl⟩) | (go_at_call 87; (with_reducible refine (HRE.out _).mono ?_); rintro e w5 ⟨rfl, hb5⟩; have h5c := bc hb5; have h5f := bf hb5; have h5z := hb5.size; try simp only [World.size_alloc, World.size_drew] at h5z))
    refine (HA.out _ (by exact blw)).mono ?_
    have HB5 := Lib.hid (LKeep.of (B := B) (g := g) (HBW.out.trans (hb5.mono HBW.out.size)) hBw)
    rintro e w6 ⟨(⟨hok, rfl, ht6⟩ | ⟨hno, rfl⟩), hk6⟩
    · have HOK := Lib.hid (HTO.out.2 ⟨hfm, HAO.out.1 hok⟩)
      rw [HNU.out] at ht6
      have HT6 := Lib.hid ht6
      clear hok ht6
      have HK6 := Lib.hid (HB5.out.trans hk6)
      clear hk6
      go_wp2_with fail
      refine bodyPost_end (v := .tuple #[]) (by simp [results, Try.results140, go_sem]; try rfl) rfl ⟨.inl ⟨HOK.out, rfl, ?_⟩, HK6.out⟩
      rw [HTP.out]
      exact HT6.out
    · have HNO := Lib.hid (show ¬ TrimOk bs S from fun hx => hno (HAO.out.2 (HTO.out.1 hx).2))
      exact ⟨rfl, .inr ⟨HNO.out, rfl⟩, HB5.out.trans hk6⟩
end Go.Proofs.Ytaladlaffglkeaa
end
