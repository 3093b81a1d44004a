
/- A lookup's table in memory, and the contract of (*Table).of. Conditions: as the lemmas say. -/
import Derived.Test.YthjnpfhcjacibaaLNum
import Derived.Test.YthjnpfhcjacibaaKeptE
import Derived.Test.YthjnpfhcjacibaaTree
namespace Go.Proofs.Ythjnpfhcjacibaa
open Go.RowKit Go.Lib

/-- Glyphs in a row that have numbers: from the first to the last, where theirs begin, and whether each has its own. -/
structure PartL where
  first : Nat
  last : Nat
  at_ : Nat
  step : Nat
def PartL.enc (p : PartL) : List Value := [.int .i64 (p.first : Nat), .int .i64 (p.last : Nat), .int .i64 (p.at_ : Nat), .int .i64 (p.step : Nat)]
def partsL (ps : List PartL) : List Value := ps.flatMap PartL.enc
def u32V (ns : List Nat) : List Value := ns.map fun x => .int .u32 (x : Nat)
theorem u32V_get (ns : List Nat) (j : Nat) (h : j < ns.length) : (u32V ns)[j]? = some (.int .u32 (ns.getD j 0 : Nat)) := by
  simp [u32V, List.getElem?_map, List.getElem?_eq_getElem h, List.getD_eq_getElem?_getD]
theorem lrow_cell {w : World} {B e M cl : Nat} {al : Option Addr} {vs : List Value} (h : w.ownsRow B e 1 (.slice al M cl) M vs) (k : Nat) (hk : k < M) : ∃ g v, al = some ⟨g, 0, none⟩ ∧ B ≤ g ∧ vs[k]? = some v ∧ w.cell? ⟨g, k, none⟩ = some v := by
  have hl : vs.length = M := by simpa using h.1
  rcases h.2 with ⟨hv, h0⟩ | ⟨g, cap, cur, hv, hg, _⟩
  · omega
  · injection hv with e1 _ e3
    subst e1 e3
    exact ⟨g, vs[k], rfl, hg, List.getElem?_eq_getElem (by omega), (h.cellAt k (by omega)).trans (List.getElem?_eq_getElem (by omega))⟩
structure TabIs (B g fmt : Nat) (ps : List PartL) (ns : List Nat) (w : World) : Prop where
  is : ∃ (ap : Option Addr) (cp : Nat) (an : Option Addr) (cn : Nat), w.heap[g]? = some (.cells #[.int .i64 (fmt : Nat), .slice ap ps.length cp, .slice an ns.length cn] 64 (0, 0)) ∧
    w.ownsRow B 66 4 (.slice ap ps.length cp) ps.length (partsL ps) ∧ w.ownsRow B 74 1 (.slice an ns.length cn) ns.length (u32V ns)
theorem TabIs.below {B g fmt : Nat} {ps : List PartL} {ns : List Nat} {w w' : World} (h : TabIs B g fmt ps ns w) (hb : Below w.heap.size w w') : TabIs B g fmt ps ns w' := by
  obtain ⟨ap, cp, an, cn, h0, h1, h2⟩ := h.is
  exact ⟨ap, cp, an, cn, (hb.block g (Array.getElem?_eq_some_iff.1 h0).1).trans h0, owns_below h1 hb (Nat.le_refl _), owns_below h2 hb (Nat.le_refl _)⟩
set_option maxRecDepth 100000 in
set_option maxHeartbeats 1600000 in
theorem tof_any (B g fmt : Nat) (ps : List PartL) (ns : List Nat) (p : PartL) (d : Nat) (id : Int) (hd : id = (p.first : Nat) + (d : Nat)) (w : World) (h : TabIs B g fmt ps ns w) (hj : p.at_ + p.step * d < ns.length) (hs : p.step = 0 ∨ p.step = 1) (h63 : p.first + d ≤ 1000000 ∧ ns.length ≤ 100000000) (hx : ∀ x ∈ ns, x ≤ 4294967295) :
    Calls Try.prog 25 #[.pointer (some ⟨g, 0, none⟩), .agg #[.int .i64 (p.first : Nat), .int .i64 (p.last : Nat), .int .i64 (p.at_ : Nat), .int .i64 (p.step : Nat)], .int .i64 id] w fun e w' => e = .returned (.int .i64 (ns.getD (p.at_ + p.step * d) 0 : Nat)) ∧ Below w.heap.size w w' := by
  have hAC := allocC
  have hAF := allocF
  obtain ⟨ap, cp, an, cn, h0, _, h2⟩ := h.is
  have c2 := cell_of_heap h0 2
  simp only [List.getElem?_toArray, List.getElem?_cons_succ, List.getElem?_cons_zero] at c2
  have hg := cell_lt c2
  simp only at hg
  obtain ⟨gn, v, rfl, _, hv, hc⟩ := lrow_cell h2 (p.at_ + p.step * d) hj
  rw [u32V_get _ _ hj] at hv
  cases hv
  have hgn := cell_lt hc
  simp only at hgn
  have hle : ns.getD (p.at_ + p.step * d) 0 ≤ 4294967295 := hx _ (by rw [List.getD_eq_getElem?_getD, List.getElem?_eq_getElem hj]; exact List.getElem_mem _)
  generalize ns.getD (p.at_ + p.step * d) 0 = x at *
  subst hd
  obtain ⟨P1, P2, P3, P4⟩ := p
  simp only at *
  have H0 := Lib.hid c2
  have HC := Lib.hid hc
  clear c2 hc
  rcases hs with rfl | rfl
  · simp only [Nat.zero_mul, Nat.add_zero] at HC hj
    go_enter Try.func25, Try.ntmps25
    go_wp2_with fail
    obtain ⟨W, hW⟩ : ∃ W, W = w.alloc (Obj.cells #[.int .i64 (P1 : Nat), .int .i64 (P2 : Nat), .int .i64 (P3 : Nat), .int .i64 0] 66) := ⟨_, rfl⟩
    have hb : Below w.heap.size w W := by rw [hW]; exact (by repeat (first | with_reducible exact brefl _ | with_reducible assumption | (with_reducible refine bset ?_ (by first | (simp; done) | (simp; omega)) _) | with_reducible refine balloc ?_ _ | with_reducible refine bdrew ?_ _ | with_reducible refine bdrew1 ?_ | with_reducible refine bthen ?_ (by assumption) | with_reducible refine Below.trans ?_ (by assumption) | exact brefl _ | assumption | refine balloc ?_ _ | refine bdrew ?_ _ | refine bdrew1 ?_ | refine bthen ?_ (by assumption) | refine Below.trans ?_ (by assumption) | (refine bset ?_ (by first | (simp; done) | (simp; omega)) _)))
    have hz : W.heap.size = w.heap.size + 1 := by rw [hW]; simp
    have d0 : W.cell? ⟨w.heap.size, 0, none⟩ = some (.int .i64 (P1 : Nat)) := by rw [hW]; simp [hAC]
    have d2 : W.cell? ⟨w.heap.size, 2, none⟩ = some (.int .i64 (P3 : Nat)) := by rw [hW]; simp [hAC]
    have d3 : W.cell? ⟨w.heap.size, 3, none⟩ = some (.int .i64 0) := by rw [hW]; simp [hAC]
    have c2 := (hb.cell (p := ⟨g, 2, none⟩) hg).trans H0.out
    have hc := (hb.cell (p := ⟨gn, P3, none⟩) hgn).trans HC.out
    have HB := Lib.hid hb
    rw [← hW]
    clear hW hb
    go_wp2_with fail
    refine wp_region_ord [0, 1, 2, 3, 4, 5, 6, 7, 8, 9, 10, 11, 12, 13, 14, 15, 16, 17] (by kernel_rfl) (by kernel_rfl) (by kernel_rfl) (by kernel_rfl) (by intro _ _ d_ _ _ h_; cases d_ <;> first | exact h_ | (dsimp +zetaDelta only at h_ ⊢; exact h_)) (fun w' => ∃ p : Wld W [], w' = p.val) (wld_start _ _) ?_
    have hG_ := @wldC W
    (refine ord_quiet (by simp only [List.getElem?_toArray, List.getElem?_cons_succ, List.getElem?_cons_zero]; rfl) (by rfl) (by rfl) (fun K_ hK_ => ?_); go_big_quiet_op; refine hK_ _ ?_; clear hK_ K_)
    (refine ord_quiet (by simp only [List.getElem?_toArray, List.getElem?_cons_succ, List.getElem?_cons_zero]; rfl) (by rfl) (by rfl) (fun K_ hK_ => ?_); go_big_quiet_op; refine hK_ _ ?_; clear hK_ K_)
    (refine ord_quiet (by simp only [List.getElem?_toArray, List.getElem?_cons_succ, List.getElem?_cons_zero]; rfl) (by rfl) (by rfl) (fun K_ hK_ => ?_); go_big_quiet_op; refine hK_ _ ?_; clear hK_ K_)
    (refine ord_quiet (by simp only [List.getElem?_toArray, List.getElem?_cons_succ, List.getElem?_cons_zero]; rfl) (by rfl) (by rfl) (fun K_ hK_ => ?_); go_big_quiet_op; refine hK_ _ ?_; clear hK_ K_)
    (refine ord_quiet (by simp only [List.getElem?_toArray, List.getElem?_cons_succ, List.getElem?_cons_zero]; rfl) (by rfl) (by rfl) (fun K_ hK_ => ?_); go_big_quiet_op; refine hK_ _ ?_; clear hK_ K_)
    (refine ord_quiet (by simp only [List.getElem?_toArray, List.getElem?_cons_succ, List.getElem?_cons_zero]; rfl) (by rfl) (by rfl) (fun K_ hK_ => ?_); go_big_quiet_op; refine hK_ _ ?_; clear hK_ K_)
    (refine ord_quiet (by simp only [List.getElem?_toArray, List.getElem?_cons_succ, List.getElem?_cons_zero]; rfl) (by rfl) (by rfl) (fun K_ hK_ => ?_); go_big_quiet_op; refine hK_ _ ?_; clear hK_ K_)
    (refine ord_quiet (by simp only [List.getElem?_toArray, List.getElem?_cons_succ, List.getElem?_cons_zero]; rfl) (by rfl) (by rfl) (fun K_ hK_ => ?_); go_big_quiet_op; refine hK_ _ ?_; clear hK_ K_)
    (refine ord_quiet (by simp only [List.getElem?_toArray, List.getElem?_cons_succ, List.getElem?_cons_zero]; rfl) (by rfl) (by rfl) (fun K_ hK_ => ?_); go_big_quiet_op; refine hK_ _ ?_; clear hK_ K_)
    (refine ord_quiet (by simp only [List.getElem?_toArray, List.getElem?_cons_succ, List.getElem?_cons_zero]; rfl) (by rfl) (by rfl) (fun K_ hK_ => ?_); go_big_quiet_op; refine hK_ _ ?_; clear hK_ K_)
    (refine ord_quiet (by simp only [List.getElem?_toArray, List.getElem?_cons_succ, List.getElem?_cons_zero]; rfl) (by rfl) (by rfl) (fun K_ hK_ => ?_); go_big_quiet_op; refine hK_ _ ?_; clear hK_ K_)
    (refine ord_quiet (by simp only [List.getElem?_toArray, List.getElem?_cons_succ, List.getElem?_cons_zero]; rfl) (by rfl) (by rfl) (fun K_ hK_ => ?_); go_big_quiet_op; refine hK_ _ ?_; clear hK_ K_)
    (refine ord_quiet (by simp only [List.getElem?_toArray, List.getElem?_cons_succ, List.getElem?_cons_zero]; rfl) (by rfl) (by rfl) (fun K_ hK_ => ?_); go_big_quiet_op; refine hK_ _ ?_; clear hK_ K_)
    (refine ord_quiet (by simp only [List.getElem?_toArray, List.getElem?_cons_succ, List.getElem?_cons_zero]; rfl) (by rfl) (by rfl) (fun K_ hK_ => ?_); go_big_quiet_op; refine hK_ _ ?_; clear hK_ K_)
    (refine ord_quiet (by simp only [List.getElem?_toArray, List.getElem?_cons_succ, List.getElem?_cons_zero]; rfl) (by rfl) (by rfl) (fun K_ hK_ => ?_); go_big_quiet_op; refine hK_ _ ?_; clear hK_ K_)
    (refine ord_quiet (by simp only [List.getElem?_toArray, List.getElem?_cons_succ, List.getElem?_cons_zero]; rfl) (by rfl) (by rfl) (fun K_ hK_ => ?_); go_big_quiet_op; refine hK_ _ ?_; clear hK_ K_)
    (refine ord_quiet (by simp only [List.getElem?_toArray, List.getElem?_cons_succ, List.getElem?_cons_zero]; rfl) (by rfl) (by rfl) (fun K_ hK_ => ?_); go_big_quiet_op; refine hK_ _ ?_; clear hK_ K_)
    (refine ord_quiet (by simp only [List.getElem?_toArray, List.getElem?_cons_succ, List.getElem?_cons_zero]; rfl) (by rfl) (by rfl) (fun K_ hK_ => ?_); go_big_quiet_op; refine hK_ _ ?_; clear hK_ K_)
    refine ord_nil ?_
    clear hG_
    go_wp2_with fail
    go_ret
    exact ⟨rfl, HB.out.trans (Below.mono (show Below W.heap.size W _ from (by repeat (first | with_reducible exact brefl _ | with_reducible assumption | (with_reducible refine bset ?_ (by first | (simp; done) | (simp; omega)) _) | with_reducible refine balloc ?_ _ | with_reducible refine bdrew ?_ _ | with_reducible refine bdrew1 ?_ | with_reducible refine bthen ?_ (by assumption) | with_reducible refine Below.trans ?_ (by assumption) | exact brefl _ | assumption | refine balloc ?_ _ | refine bdrew ?_ _ | refine bdrew1 ?_ | refine bthen ?_ (by assumption) | refine Below.trans ?_ (by assumption) | (refine bset ?_ (by first | (simp; done) | (simp; omega)) _)))) (by omega))⟩
  · simp only [Nat.one_mul] at HC hj
    go_enter Try.func25, Try.ntmps25
    go_wp2_with fail
    obtain ⟨W, hW⟩ : ∃ W, W = w.alloc (Obj.cells #[.int .i64 (P1 : Nat), .int .i64 (P2 : Nat), .int .i64 (P3 : Nat), .int .i64 1] 66) := ⟨_, rfl⟩
    have hb : Below w.heap.size w W := by rw [hW]; exact (by repeat (first | with_reducible exact brefl _ | with_reducible assumption | (with_reducible refine bset ?_ (by first | (simp; done) | (simp; omega)) _) | with_reducible refine balloc ?_ _ | with_reducible refine bdrew ?_ _ | with_reducible refine bdrew1 ?_ | with_reducible refine bthen ?_ (by assumption) | with_reducible refine Below.trans ?_ (by assumption) | exact brefl _ | assumption | refine balloc ?_ _ | refine bdrew ?_ _ | refine bdrew1 ?_ | refine bthen ?_ (by assumption) | refine Below.trans ?_ (by assumption) | (refine bset ?_ (by first | (simp; done) | (simp; omega)) _)))
    have hz : W.heap.size = w.heap.size + 1 := by rw [hW]; simp
    have d0 : W.cell? ⟨w.heap.size, 0, none⟩ = some (.int .i64 (P1 : Nat)) := by rw [hW]; simp [hAC]
    have d2 : W.cell? ⟨w.heap.size, 2, none⟩ = some (.int .i64 (P3 : Nat)) := by rw [hW]; simp [hAC]
    have d3 : W.cell? ⟨w.heap.size, 3, none⟩ = some (.int .i64 1) := by rw [hW]; simp [hAC]
    have c2 := (hb.cell (p := ⟨g, 2, none⟩) hg).trans H0.out
    have hc := (hb.cell (p := ⟨gn, P3 + d, none⟩) hgn).trans HC.out
    have HB := Lib.hid hb
    rw [← hW]
    clear hW hb
    go_wp2_with fail
    refine wp_region_ord [0, 1, 2, 3, 4, 5, 6, 7, 8, 9, 10, 11, 12, 13, 14, 15, 16, 17] (by kernel_rfl) (by kernel_rfl) (by kernel_rfl) (by kernel_rfl) (by intro _ _ d_ _ _ h_; cases d_ <;> first | exact h_ | (dsimp +zetaDelta only at h_ ⊢; exact h_)) (fun w' => ∃ p : Wld W [], w' = p.val) (wld_start _ _) ?_
    have hG_ := @wldC W
    (refine ord_quiet (by simp only [List.getElem?_toArray, List.getElem?_cons_succ, List.getElem?_cons_zero]; rfl) (by rfl) (by rfl) (fun K_ hK_ => ?_); go_big_quiet_op; refine hK_ _ ?_; clear hK_ K_)
    (refine ord_quiet (by simp only [List.getElem?_toArray, List.getElem?_cons_succ, List.getElem?_cons_zero]; rfl) (by rfl) (by rfl) (fun K_ hK_ => ?_); go_big_quiet_op; refine hK_ _ ?_; clear hK_ K_)
    (refine ord_quiet (by simp only [List.getElem?_toArray, List.getElem?_cons_succ, List.getElem?_cons_zero]; rfl) (by rfl) (by rfl) (fun K_ hK_ => ?_); go_big_quiet_op; refine hK_ _ ?_; clear hK_ K_)
    (refine ord_quiet (by simp only [List.getElem?_toArray, List.getElem?_cons_succ, List.getElem?_cons_zero]; rfl) (by rfl) (by rfl) (fun K_ hK_ => ?_); go_big_quiet_op; refine hK_ _ ?_; clear hK_ K_)
    (refine ord_quiet (by simp only [List.getElem?_toArray, List.getElem?_cons_succ, List.getElem?_cons_zero]; rfl) (by rfl) (by rfl) (fun K_ hK_ => ?_); go_big_quiet_op; refine hK_ _ ?_; clear hK_ K_)
    (refine ord_quiet (by simp only [List.getElem?_toArray, List.getElem?_cons_succ, List.getElem?_cons_zero]; rfl) (by rfl) (by rfl) (fun K_ hK_ => ?_); go_big_quiet_op; refine hK_ _ ?_; clear hK_ K_)
    (refine ord_quiet (by simp only [List.getElem?_toArray, List.getElem?_cons_succ, List.getElem?_cons_zero]; rfl) (by rfl) (by rfl) (fun K_ hK_ => ?_); go_big_quiet_op; refine hK_ _ ?_; clear hK_ K_)
    (refine ord_quiet (by simp only [List.getElem?_toArray, List.getElem?_cons_succ, List.getElem?_cons_zero]; rfl) (by rfl) (by rfl) (fun K_ hK_ => ?_); go_big_quiet_op; refine hK_ _ ?_; clear hK_ K_)
    (refine ord_quiet (by simp only [List.getElem?_toArray, List.getElem?_cons_succ, List.getElem?_cons_zero]; rfl) (by rfl) (by rfl) (fun K_ hK_ => ?_); go_big_quiet_op; refine hK_ _ ?_; clear hK_ K_)
    (refine ord_quiet (by simp only [List.getElem?_toArray, List.getElem?_cons_succ, List.getElem?_cons_zero]; rfl) (by rfl) (by rfl) (fun K_ hK_ => ?_); go_big_quiet_op; refine hK_ _ ?_; clear hK_ K_)
    (refine ord_quiet (by simp only [List.getElem?_toArray, List.getElem?_cons_succ, List.getElem?_cons_zero]; rfl) (by rfl) (by rfl) (fun K_ hK_ => ?_); go_big_quiet_op; refine hK_ _ ?_; clear hK_ K_)
    (refine ord_quiet (by simp only [List.getElem?_toArray, List.getElem?_cons_succ, List.getElem?_cons_zero]; rfl) (by rfl) (by rfl) (fun K_ hK_ => ?_); go_big_quiet_op; refine hK_ _ ?_; clear hK_ K_)
    (refine ord_quiet (by simp only [List.getElem?_toArray, List.getElem?_cons_succ, List.getElem?_cons_zero]; rfl) (by rfl) (by rfl) (fun K_ hK_ => ?_); go_big_quiet_op; refine hK_ _ ?_; clear hK_ K_)
    (refine ord_quiet (by simp only [List.getElem?_toArray, List.getElem?_cons_succ, List.getElem?_cons_zero]; rfl) (by rfl) (by rfl) (fun K_ hK_ => ?_); go_big_quiet_op; refine hK_ _ ?_; clear hK_ K_)
    (refine ord_quiet (by simp only [List.getElem?_toArray, List.getElem?_cons_succ, List.getElem?_cons_zero]; rfl) (by rfl) (by rfl) (fun K_ hK_ => ?_); go_big_quiet_op; refine hK_ _ ?_; clear hK_ K_)
    (refine ord_quiet (by simp only [List.getElem?_toArray, List.getElem?_cons_succ, List.getElem?_cons_zero]; rfl) (by rfl) (by rfl) (fun K_ hK_ => ?_); go_big_quiet_op; refine hK_ _ ?_; clear hK_ K_)
    (refine ord_quiet (by simp only [List.getElem?_toArray, List.getElem?_cons_succ, List.getElem?_cons_zero]; rfl) (by rfl) (by rfl) (fun K_ hK_ => ?_); go_big_quiet_op; refine hK_ _ ?_; clear hK_ K_)
    (refine ord_quiet (by simp only [List.getElem?_toArray, List.getElem?_cons_succ, List.getElem?_cons_zero]; rfl) (by rfl) (by rfl) (fun K_ hK_ => ?_); go_big_quiet_op; refine hK_ _ ?_; clear hK_ K_)
    refine ord_nil ?_
    clear hG_
    go_wp2_with fail
    go_ret
    exact ⟨rfl, HB.out.trans (Below.mono (show Below W.heap.size W _ from (by repeat (first | with_reducible exact brefl _ | with_reducible assumption | (with_reducible refine bset ?_ (by first | (simp; done) | (simp; omega)) _) | with_reducible refine balloc ?_ _ | with_reducible refine bdrew ?_ _ | with_reducible refine bdrew1 ?_ | with_reducible refine bthen ?_ (by assumption) | with_reducible refine Below.trans ?_ (by assumption) | exact brefl _ | assumption | refine balloc ?_ _ | refine bdrew ?_ _ | refine bdrew1 ?_ | refine bthen ?_ (by assumption) | refine Below.trans ?_ (by assumption) | (refine bset ?_ (by first | (simp; done) | (simp; omega)) _)))) (by omega))⟩
end Go.Proofs.Ythjnpfhcjacibaa
