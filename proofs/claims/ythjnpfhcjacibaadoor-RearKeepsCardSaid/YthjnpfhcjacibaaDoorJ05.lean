/- Joined from: LGetT SEnd STake LSpec LTake8. -/
import Derived.Test.YthjnpfhcjacibaaDoorJ04
import Derived.Test.YthjnpfhcjacibaaDoorJ01
section

/- The contract of (*Table).Get. Conditions: a table in memory, its parts rising, its numbers there. -/
namespace Go.Proofs.YthjnpfhcjacibaaDoor
open Go.RowKit Go.Lib

theorem enter_get1 (args : Array Value) (w : World) : (callFunc 80 args).run Tryd.prog w = .ok (.enter 80 args) w := by kernel_rfl
/-- A table's parts and numbers fit. -/
structure FitL (ps : List PartL) (ns : List Nat) : Prop where
  rising : Rising ps
  ok : ∀ p ∈ ps, (p.step = 0 ∨ p.step = 1) ∧ p.at_ + p.step * (p.last - p.first) < ns.length ∧ p.last ≤ 70000
  num : ∀ x ∈ ns, x ≤ 4294967295
  few : ps.length ≤ 1000000
  many : ns.length ≤ 100000000
theorem Rising.mono {ps : List PartL} (h : Rising ps) {i j : Nat} {p q : PartL} (hij : i ≤ j) (hp : ps[i]? = some p) (hq : ps[j]? = some q) : p.last ≤ q.last := by
  rcases Nat.lt_or_ge i j with g | g
  · obtain ⟨hi, rfl⟩ := List.getElem?_eq_some_iff.1 hp
    obtain ⟨hj, rfl⟩ := List.getElem?_eq_some_iff.1 hq
    have h1 := List.pairwise_iff_getElem.1 h.1 i j hi hj g
    have h2 := h.2 _ (List.getElem_mem hj)
    omega
  · obtain rfl : i = j := by omega
    rw [hp] at hq
    cases hq
    exact Nat.le_refl _
def lastAt (ps : List PartL) (i : Nat) : Nat := (ps[i]?.map PartL.last).getD 0
set_option maxRecDepth 100000 in
set_option maxHeartbeats 1600000 in
theorem get_any (B g fmt : Nat) (ps : List PartL) (ns : List Nat) (id : Int) (w : World) (h : TabIs B g fmt ps ns w) (hf : FitL ps ns) (hid : -9223372036854775808 ≤ id ∧ id ≤ 9223372036854775807) :
    Calls Tryd.prog 69 #[.pointer (some ⟨g, 0, none⟩), .int .i64 id] w fun e w' =>
      ((∃ p ∈ ps, (p.first : Nat) ≤ id ∧ id ≤ (p.last : Nat) ∧ e = .returned (.tuple #[.int .i64 (ns.getD (p.at_ + p.step * (id - p.first).toNat) 0 : Nat), .bool true])) ∨ ((∀ p ∈ ps, ¬ ((p.first : Nat) ≤ id ∧ id ≤ (p.last : Nat))) ∧ e = .returned (.tuple #[.int .i64 0, .bool false]))) ∧ Below w.heap.size w w' := by
  have hAC := allocC
  have hAF := allocF
  have hg0 : g < w.heap.size := by
    obtain ⟨_, _, _, _, h0, _⟩ := h.is
    exact (Array.getElem?_eq_some_iff.1 h0).1
  obtain ⟨W, hW⟩ : ∃ W, W = (w.alloc (Obj.cells #[.pointer (some ⟨g, 0, none⟩)] 107)).alloc (Obj.cells #[.int .i64 id] 3) := ⟨_, rfl⟩
  have hb : Below w.heap.size w W := by rw [hW]; exact blw
  have hz : W.heap.size = w.heap.size + 2 := by rw [hW]; simp
  have c2 : W.cell? ⟨w.heap.size, 0, none⟩ = some (.pointer (some ⟨g, 0, none⟩)) := by rw [hW]; simp [hAC]
  have c3 : W.cell? ⟨w.heap.size + 1, 0, none⟩ = some (.int .i64 id) := by rw [hW]; simp [hAC]
  have HT := Lib.hid (h.below hb)
  have HF := Lib.hid hf
  have HB := Lib.hid hb
  have hfew := hf.few
  have HI := Lib.hid (first_any 80 #[.pointer (some ⟨w.heap.size, 0, none⟩), .pointer (some ⟨w.heap.size + 1, 0, none⟩)] ps.length (fun i => decide (id ≤ (lastAt ps i : Nat))) (fun _ V => Below W.heap.size W V) W (by omega)
    (fun i j h1 h2 h3 => by
      have hp := List.getElem?_eq_getElem (show i < ps.length by omega)
      have hq := List.getElem?_eq_getElem h2
      have := hf.rising.mono h1 hp hq
      simp only [decide_eq_true_eq, lastAt, hp, hq, Option.map_some, Option.getD_some] at *
      omega) (brefl W) enter_get1
    (fun i k V hi _ hV => by
      have hp := List.getElem?_eq_getElem hi
      refine (get1_any B g fmt ps ns w.heap.size (w.heap.size + 1) i _ id V (HT.out.below hV) hp hfew ((hV.cell (p := ⟨w.heap.size, 0, none⟩) (by rw [hz]; simp)).trans c2) ((hV.cell (p := ⟨w.heap.size + 1, 0, none⟩) (by rw [hz]; simp)).trans c3)).mono ?_
      rintro e w' ⟨rfl, hb'⟩
      exact ⟨by simp only [lastAt, hp, Option.map_some, Option.getD_some], hV.trans (hb'.mono hV.size)⟩))
  obtain ⟨ap, cp, an, cn, h0, h1, _⟩ := h.is
  have c1 := cell_of_heap h0 1
  simp only [List.getElem?_toArray, List.getElem?_cons_succ, List.getElem?_cons_zero] at c1
  have H1 := Lib.hid (owns_below h1 HB.out (Nat.le_refl _))
  have hne1 : ¬ g = w.heap.size := by omega
  have hne2 : ¬ g = w.heap.size + 1 := by omega
  clear h hf hb h0 h1
  generalize hL : ps.length = L at *
  go_enter Tryd.func69, Tryd.ntmps69
  go_wp2_with fail
  rw [← hW]
  refine HI.out.mono ?_
  clear HI
  rintro e V ⟨r, k, hr, hlo, hhi, _, rfl, hV⟩
  have v2 := (hV.cell (p := ⟨w.heap.size, 0, none⟩) (by rw [hz]; simp)).trans c2
  have v3 := (hV.cell (p := ⟨w.heap.size + 1, 0, none⟩) (by rw [hz]; simp)).trans c3
  have hgW : g < W.heap.size := by omega
  have v1 := (hV.cell (p := ⟨g, 1, none⟩) hgW).trans ((HB.out.cell (p := ⟨g, 1, none⟩) hg0).trans c1)
  have hzV := hV.size
  have HBV := Lib.hid (HB.out.trans (hV.mono HB.out.size))
  have HLO := Lib.hid hlo
  have HHI := Lib.hid hhi
  have HTV := Lib.hid (HT.out.below hV)
  have HO := Lib.hid (owns_below H1.out hV (Nat.le_refl _))
  have HLL := Lib.hid hL
  have hlow : ∀ (q : PartL) (i : Nat), i < r → ps[i]? = some q → (q.last : Nat) < id := fun q i hi hq => by
    have := hlo i hi
    simp only [decide_eq_false_iff_not, lastAt, hq, Option.map_some, Option.getD_some] at this
    omega
  have HLW := Lib.hid hlow
  clear hW c1 c2 c3 hV hlo hhi HT H1 hL hlow
  by_cases hrL : r < L
  · obtain ⟨p, hp⟩ : ∃ p, ps[r]? = some p := ⟨_, List.getElem?_eq_getElem (by rw [HLL.out]; exact hrL)⟩
    obtain ⟨e0, e1, e2, e3⟩ := partsL_get ps r p hp
    obtain ⟨gp, hap⟩ : ∃ gp, ap = some ⟨gp, 0, none⟩ := by
      rcases HO.out.2 with ⟨hv, hn0⟩ | ⟨gp, cap, cur, hv, _⟩
      · omega
      · injection hv with ea _ _
        exact ⟨gp, ea⟩
    subst hap
    have k0 := (HO.out.cellAt (r * 4) (by omega)).trans e0
    have k1 := (HO.out.cellAt (r * 4 + 1) (by omega)).trans e1
    have k2 := (HO.out.cellAt (r * 4 + 2) (by omega)).trans e2
    have k3 := (HO.out.cellAt (r * 4 + 3) (by omega)).trans e3
    have hgp := cell_lt k0
    simp only at hgp
    have hd : ((r : Int) == (L : Int)) = false := by simp; omega
    have hmem : p ∈ ps := List.mem_of_getElem? hp
    have hle : id ≤ (p.last : Nat) := by
      have := HHI.out r (Nat.le_refl _) hrL
      simpa [lastAt, hp] using this
    by_cases hlt : id < (p.first : Nat)
    · have hd2 : decide (id < ((p.first : Nat) : Int)) = true := by simpa using hlt
      have HRES := Lib.hid (show ∀ q ∈ ps, ¬ ((q.first : Nat) ≤ id ∧ id ≤ (q.last : Nat)) from fun q hq hin => by
        obtain ⟨i, hi, rfl⟩ := List.getElem_of_mem hq
        have hiq := List.getElem?_eq_getElem hi
        rcases Nat.lt_trichotomy i r with hc | hc | hc
        · have := HLW.out _ i hc hiq
          omega
        · subst hc
          rw [hp] at hiq
          cases hiq
          omega
        · obtain ⟨hr', hpe⟩ := List.getElem?_eq_some_iff.1 hp
          have h1 := List.pairwise_iff_getElem.1 HF.out.rising.1 r i hr' hi hc
          have h2 := HF.out.rising.2 p hmem
          rw [hpe] at h1
          omega)
      clear e0 e1 e2 e3 hp hmem hle
      generalize p.first = f1 at *
      generalize p.last = f2 at *
      go_wp2_with fail
      refine wp_region_tree (.step 0 (.step 1 (.step 2 (.step 3 (.step 4 (.step 5 (.step 6 (.step 7 (.step 8 (.step 9 (.step 10 (.step 11 (.step 12 (.step 13 (.step 14 (.step 15 (.step 16 (.step 17 (.step 18 .nil))))))))))))))))))) (by kernel_rfl) (by kernel_rfl) (by kernel_rfl) (by kernel_rfl) (by intro _ _ d_ _ _ h_; cases d_ <;> first | exact h_ | (dsimp +zetaDelta only at h_ ⊢; exact h_)) (fun w' => ∃ p : Wld V [], w' = p.val) (wld_start _ _) ?_
      have hG_ := @wldC V
      (refine tree_quiet (by simp only [List.getElem?_toArray, List.getElem?_cons_succ, List.getElem?_cons_zero]; rfl) (by rfl) (by rfl) (fun K_ hK_ => ?_); go_big_quiet_op; refine hK_ _ ?_; clear hK_ K_)
      (refine tree_quiet (by simp only [List.getElem?_toArray, List.getElem?_cons_succ, List.getElem?_cons_zero]; rfl) (by rfl) (by rfl) (fun K_ hK_ => ?_); go_big_quiet_op; refine hK_ _ ?_; clear hK_ K_)
      (refine tree_quiet (by simp only [List.getElem?_toArray, List.getElem?_cons_succ, List.getElem?_cons_zero]; rfl) (by rfl) (by rfl) (fun K_ hK_ => ?_); go_big_quiet_op; refine hK_ _ ?_; clear hK_ K_)
      (refine tree_quiet (by simp only [List.getElem?_toArray, List.getElem?_cons_succ, List.getElem?_cons_zero]; rfl) (by rfl) (by rfl) (fun K_ hK_ => ?_); go_big_quiet_op; refine hK_ _ ?_; clear hK_ K_)
      (refine tree_quiet (by simp only [List.getElem?_toArray, List.getElem?_cons_succ, List.getElem?_cons_zero]; rfl) (by rfl) (by rfl) (fun K_ hK_ => ?_); go_big_quiet_op; refine hK_ _ ?_; clear hK_ K_)
      (refine tree_quiet (by simp only [List.getElem?_toArray, List.getElem?_cons_succ, List.getElem?_cons_zero]; rfl) (by rfl) (by rfl) (fun K_ hK_ => ?_); go_big_quiet_op; refine hK_ _ ?_; clear hK_ K_)
      (refine tree_quiet (by simp only [List.getElem?_toArray, List.getElem?_cons_succ, List.getElem?_cons_zero]; rfl) (by rfl) (by rfl) (fun K_ hK_ => ?_); go_big_quiet_op; refine hK_ _ ?_; clear hK_ K_)
      (refine tree_quiet (by simp only [List.getElem?_toArray, List.getElem?_cons_succ, List.getElem?_cons_zero]; rfl) (by rfl) (by rfl) (fun K_ hK_ => ?_); go_big_quiet_op; refine hK_ _ ?_; clear hK_ K_)
      (refine tree_quiet (by simp only [List.getElem?_toArray, List.getElem?_cons_succ, List.getElem?_cons_zero]; rfl) (by rfl) (by rfl) (fun K_ hK_ => ?_); go_big_quiet_op; refine hK_ _ ?_; clear hK_ K_)
      (refine tree_quiet (by simp only [List.getElem?_toArray, List.getElem?_cons_succ, List.getElem?_cons_zero]; rfl) (by rfl) (by rfl) (fun K_ hK_ => ?_); go_big_quiet_op; refine hK_ _ ?_; clear hK_ K_)
      (refine tree_quiet (by simp only [List.getElem?_toArray, List.getElem?_cons_succ, List.getElem?_cons_zero]; rfl) (by rfl) (by rfl) (fun K_ hK_ => ?_); go_big_quiet_op; refine hK_ _ ?_; clear hK_ K_)
      (refine tree_quiet (by simp only [List.getElem?_toArray, List.getElem?_cons_succ, List.getElem?_cons_zero]; rfl) (by rfl) (by rfl) (fun K_ hK_ => ?_); go_big_quiet_op; refine hK_ _ ?_; clear hK_ K_)
      (refine tree_quiet (by simp only [List.getElem?_toArray, List.getElem?_cons_succ, List.getElem?_cons_zero]; rfl) (by rfl) (by rfl) (fun K_ hK_ => ?_); go_big_quiet_op; refine hK_ _ ?_; clear hK_ K_)
      (refine tree_quiet (by simp only [List.getElem?_toArray, List.getElem?_cons_succ, List.getElem?_cons_zero]; rfl) (by rfl) (by rfl) (fun K_ hK_ => ?_); go_big_quiet_op; refine hK_ _ ?_; clear hK_ K_)
      (refine tree_quiet (by simp only [List.getElem?_toArray, List.getElem?_cons_succ, List.getElem?_cons_zero]; rfl) (by rfl) (by rfl) (fun K_ hK_ => ?_); go_big_quiet_op; refine hK_ _ ?_; clear hK_ K_)
      (refine tree_quiet (by simp only [List.getElem?_toArray, List.getElem?_cons_succ, List.getElem?_cons_zero]; rfl) (by rfl) (by rfl) (fun K_ hK_ => ?_); go_big_quiet_op; refine hK_ _ ?_; clear hK_ K_)
      (refine tree_quiet (by simp only [List.getElem?_toArray, List.getElem?_cons_succ, List.getElem?_cons_zero]; rfl) (by rfl) (by rfl) (fun K_ hK_ => ?_); go_big_quiet_op; refine hK_ _ ?_; clear hK_ K_)
      (refine tree_quiet (by simp only [List.getElem?_toArray, List.getElem?_cons_succ, List.getElem?_cons_zero]; rfl) (by rfl) (by rfl) (fun K_ hK_ => ?_); go_big_quiet_op; refine hK_ _ ?_; clear hK_ K_)
      (refine tree_quiet (by simp only [List.getElem?_toArray, List.getElem?_cons_succ, List.getElem?_cons_zero]; rfl) (by rfl) (by rfl) (fun K_ hK_ => ?_); go_big_quiet_op; refine hK_ _ ?_; clear hK_ K_)
      refine tree_nil ?_
      clear hG_
      go_wp2_with fail
      refine bodyPost_ret (v := .tuple #[.int .i64 0, .bool false]) (by simp [results, Tryd.results69, go_sem]) rfl ?_
      exact ⟨.inr ⟨HRES.out, rfl⟩, HBV.out.trans (Below.mono (show Below V.heap.size V _ from blw) (by omega))⟩
    · have hd2 : decide (id < ((p.first : Nat) : Int)) = false := by simp; omega
      obtain ⟨d, hdd⟩ : ∃ d : Nat, id = (p.first : Nat) + (d : Nat) := ⟨(id - p.first).toNat, by omega⟩
      obtain ⟨s1, s2, s3⟩ := HF.out.ok p hmem
      have hj : p.at_ + p.step * d < ns.length := by
        rcases s1 with s | s <;> rw [s] at s2 ⊢ <;> omega
      have HOF := Lib.hid (fun V' (hb : Below V.heap.size V V') => tof_any B g fmt ps ns p d id hdd V' (HTV.out.below hb) hj s1 ⟨by omega, HF.out.many⟩ HF.out.num)
      have HRES := Lib.hid (show ∃ q ∈ ps, (q.first : Nat) ≤ id ∧ id ≤ (q.last : Nat) ∧ (.returned (.tuple #[.int .i64 (ns.getD (p.at_ + p.step * d) 0 : Nat), .bool true]) : Ending) = .returned (.tuple #[.int .i64 (ns.getD (q.at_ + q.step * (id - q.first).toNat) 0 : Nat), .bool true]) from
        ⟨p, hmem, by omega, hle, by rw [show (id - (p.first : Nat)).toNat = d by omega]⟩)
      clear e0 e1 e2 e3 hp hmem hle hdd s1 s2 s3 hj
      generalize ns.getD (p.at_ + p.step * d) 0 = x at *
      generalize p.first = f1 at *
      generalize p.last = f2 at *
      generalize p.at_ = f3 at *
      generalize p.step = f4 at *
      go_wp2_with fail
      refine wp_region_tree (.step 0 (.step 1 (.step 2 (.step 3 (.step 4 (.step 5 (.step 6 (.step 7 (.step 8 (.step 9 (.step 10 (.step 11 (.step 12 (.step 13 (.step 14 (.step 15 (.step 16 (.step 17 (.step 18 .nil))))))))))))))))))) (by kernel_rfl) (by kernel_rfl) (by kernel_rfl) (by kernel_rfl) (by intro _ _ d_ _ _ h_; cases d_ <;> first | exact h_ | (dsimp +zetaDelta only at h_ ⊢; exact h_)) (fun w' => ∃ p : Wld V [], w' = p.val) (wld_start _ _) ?_
      have hG_ := @wldC V
      (refine tree_quiet (by simp only [List.getElem?_toArray, List.getElem?_cons_succ, List.getElem?_cons_zero]; rfl) (by rfl) (by rfl) (fun K_ hK_ => ?_); go_big_quiet_op; refine hK_ _ ?_; clear hK_ K_)
      (refine tree_quiet (by simp only [List.getElem?_toArray, List.getElem?_cons_succ, List.getElem?_cons_zero]; rfl) (by rfl) (by rfl) (fun K_ hK_ => ?_); go_big_quiet_op; refine hK_ _ ?_; clear hK_ K_)
      (refine tree_quiet (by simp only [List.getElem?_toArray, List.getElem?_cons_succ, List.getElem?_cons_zero]; rfl) (by rfl) (by rfl) (fun K_ hK_ => ?_); go_big_quiet_op; refine hK_ _ ?_; clear hK_ K_)
      (refine tree_quiet (by simp only [List.getElem?_toArray, List.getElem?_cons_succ, List.getElem?_cons_zero]; rfl) (by rfl) (by rfl) (fun K_ hK_ => ?_); go_big_quiet_op; refine hK_ _ ?_; clear hK_ K_)
      (refine tree_quiet (by simp only [List.getElem?_toArray, List.getElem?_cons_succ, List.getElem?_cons_zero]; rfl) (by rfl) (by rfl) (fun K_ hK_ => ?_); go_big_quiet_op; refine hK_ _ ?_; clear hK_ K_)
      (refine tree_quiet (by simp only [List.getElem?_toArray, List.getElem?_cons_succ, List.getElem?_cons_zero]; rfl) (by rfl) (by rfl) (fun K_ hK_ => ?_); go_big_quiet_op; refine hK_ _ ?_; clear hK_ K_)
      (refine tree_quiet (by simp only [List.getElem?_toArray, List.getElem?_cons_succ, List.getElem?_cons_zero]; rfl) (by rfl) (by rfl) (fun K_ hK_ => ?_); go_big_quiet_op; refine hK_ _ ?_; clear hK_ K_)
      (refine tree_quiet (by simp only [List.getElem?_toArray, List.getElem?_cons_succ, List.getElem?_cons_zero]; rfl) (by rfl) (by rfl) (fun K_ hK_ => ?_); go_big_quiet_op; refine hK_ _ ?_; clear hK_ K_)
      (refine tree_quiet (by simp only [List.getElem?_toArray, List.getElem?_cons_succ, List.getElem?_cons_zero]; rfl) (by rfl) (by rfl) (fun K_ hK_ => ?_); go_big_quiet_op; refine hK_ _ ?_; clear hK_ K_)
      (refine tree_quiet (by simp only [List.getElem?_toArray, List.getElem?_cons_succ, List.getElem?_cons_zero]; rfl) (by rfl) (by rfl) (fun K_ hK_ => ?_); go_big_quiet_op; refine hK_ _ ?_; clear hK_ K_)
      (refine tree_quiet (by simp only [List.getElem?_toArray, List.getElem?_cons_succ, List.getElem?_cons_zero]; rfl) (by rfl) (by rfl) (fun K_ hK_ => ?_); go_big_quiet_op; refine hK_ _ ?_; clear hK_ K_)
      (refine tree_quiet (by simp only [List.getElem?_toArray, List.getElem?_cons_succ, List.getElem?_cons_zero]; rfl) (by rfl) (by rfl) (fun K_ hK_ => ?_); go_big_quiet_op; refine hK_ _ ?_; clear hK_ K_)
      (refine tree_quiet (by simp only [List.getElem?_toArray, List.getElem?_cons_succ, List.getElem?_cons_zero]; rfl) (by rfl) (by rfl) (fun K_ hK_ => ?_); go_big_quiet_op; refine hK_ _ ?_; clear hK_ K_)
      (refine tree_quiet (by simp only [List.getElem?_toArray, List.getElem?_cons_succ, List.getElem?_cons_zero]; rfl) (by rfl) (by rfl) (fun K_ hK_ => ?_); go_big_quiet_op; refine hK_ _ ?_; clear hK_ K_)
      (refine tree_quiet (by simp only [List.getElem?_toArray, List.getElem?_cons_succ, List.getElem?_cons_zero]; rfl) (by rfl) (by rfl) (fun K_ hK_ => ?_); go_big_quiet_op; refine hK_ _ ?_; clear hK_ K_)
      (refine tree_quiet (by simp only [List.getElem?_toArray, List.getElem?_cons_succ, List.getElem?_cons_zero]; rfl) (by rfl) (by rfl) (fun K_ hK_ => ?_); go_big_quiet_op; refine hK_ _ ?_; clear hK_ K_)
      (refine tree_quiet (by simp only [List.getElem?_toArray, List.getElem?_cons_succ, List.getElem?_cons_zero]; rfl) (by rfl) (by rfl) (fun K_ hK_ => ?_); go_big_quiet_op; refine hK_ _ ?_; clear hK_ K_)
      (refine tree_quiet (by simp only [List.getElem?_toArray, List.getElem?_cons_succ, List.getElem?_cons_zero]; rfl) (by rfl) (by rfl) (fun K_ hK_ => ?_); go_big_quiet_op; refine hK_ _ ?_; clear hK_ K_)
      (refine tree_quiet (by simp only [List.getElem?_toArray, List.getElem?_cons_succ, List.getElem?_cons_zero]; rfl) (by rfl) (by rfl) (fun K_ hK_ => ?_); go_big_quiet_op; refine hK_ _ ?_; clear hK_ K_)
      refine tree_nil ?_
      clear hG_
      go_wp2_with fail
      obtain ⟨V2, hV2⟩ : ∃ V2, V2 = V.drew := ⟨_, rfl⟩
      have hb2 : Below V.heap.size V V2 := by rw [hV2]; exact bdrew1 (brefl V)
      have hz2 := hb2.size
      have u1 := (hb2.cell (p := ⟨g, 1, none⟩) (by show g < V.heap.size; omega)).trans v1
      have u2 := (hb2.cell (p := ⟨w.heap.size, 0, none⟩) (by show w.heap.size < V.heap.size; omega)).trans v2
      have u3 := (hb2.cell (p := ⟨w.heap.size + 1, 0, none⟩) (by show w.heap.size + 1 < V.heap.size; omega)).trans v3
      have j0 := (hb2.cell (p := ⟨gp, r * 4, none⟩) hgp).trans k0
      have j1 := (hb2.cell (p := ⟨gp, r * 4 + 1, none⟩) hgp).trans k1
      have j2 := (hb2.cell (p := ⟨gp, r * 4 + 2, none⟩) hgp).trans k2
      have j3 := (hb2.cell (p := ⟨gp, r * 4 + 3, none⟩) hgp).trans k3
      have HB2 := Lib.hid hb2
      rw [← hV2]
      clear hV2 hb2 v1 v2 v3 k0 k1 k2 k3
      refine wp_region_tree (.step 0 (.step 1 (.step 2 (.step 3 (.step 4 (.step 5 (.step 6 (.step 7 (.step 8 (.step 9 (.step 10 (.step 11 .nil)))))))))))) (by kernel_rfl) (by kernel_rfl) (by kernel_rfl) (by kernel_rfl) (by intro _ _ d_ _ _ h_; cases d_ <;> first | exact h_ | (dsimp +zetaDelta only at h_ ⊢; exact h_)) (fun w' => ∃ p : Wld V2 [], w' = p.val) (wld_start _ _) ?_
      have hG_ := @wldC V2
      (refine tree_quiet (by simp only [List.getElem?_toArray, List.getElem?_cons_succ, List.getElem?_cons_zero]; rfl) (by rfl) (by rfl) (fun K_ hK_ => ?_); go_big_quiet_op; refine hK_ _ ?_; clear hK_ K_)
      (refine tree_quiet (by simp only [List.getElem?_toArray, List.getElem?_cons_succ, List.getElem?_cons_zero]; rfl) (by rfl) (by rfl) (fun K_ hK_ => ?_); go_big_quiet_op; refine hK_ _ ?_; clear hK_ K_)
      (refine tree_quiet (by simp only [List.getElem?_toArray, List.getElem?_cons_succ, List.getElem?_cons_zero]; rfl) (by rfl) (by rfl) (fun K_ hK_ => ?_); go_big_quiet_op; refine hK_ _ ?_; clear hK_ K_)
      (refine tree_quiet (by simp only [List.getElem?_toArray, List.getElem?_cons_succ, List.getElem?_cons_zero]; rfl) (by rfl) (by rfl) (fun K_ hK_ => ?_); go_big_quiet_op; refine hK_ _ ?_; clear hK_ K_)
      (refine tree_quiet (by simp only [List.getElem?_toArray, List.getElem?_cons_succ, List.getElem?_cons_zero]; rfl) (by rfl) (by rfl) (fun K_ hK_ => ?_); go_big_quiet_op; refine hK_ _ ?_; clear hK_ K_)
      (refine tree_quiet (by simp only [List.getElem?_toArray, List.getElem?_cons_succ, List.getElem?_cons_zero]; rfl) (by rfl) (by rfl) (fun K_ hK_ => ?_); go_big_quiet_op; refine hK_ _ ?_; clear hK_ K_)
      (refine tree_quiet (by simp only [List.getElem?_toArray, List.getElem?_cons_succ, List.getElem?_cons_zero]; rfl) (by rfl) (by rfl) (fun K_ hK_ => ?_); go_big_quiet_op; refine hK_ _ ?_; clear hK_ K_)
      (refine tree_quiet (by simp only [List.getElem?_toArray, List.getElem?_cons_succ, List.getElem?_cons_zero]; rfl) (by rfl) (by rfl) (fun K_ hK_ => ?_); go_big_quiet_op; refine hK_ _ ?_; clear hK_ K_)
      (refine tree_quiet (by simp only [List.getElem?_toArray, List.getElem?_cons_succ, List.getElem?_cons_zero]; rfl) (by rfl) (by rfl) (fun K_ hK_ => ?_); go_big_quiet_op; refine hK_ _ ?_; clear hK_ K_)
      (refine tree_run (by simp only [List.getElem?_toArray, List.getElem?_cons_succ, List.getElem?_cons_zero]; rfl) (by rfl) (by rfl) (fun K_ hK_ => ?_); have HK_ := Lib.hid hK_; clear hK_; go_wp2_with ((go_at_call 81; refine (HOF.out _ (HB2.out.trans (Below.mono (show Below V2.heap.size V2 _ from blw) hz2))).mono ?_; rintro e va ⟨rfl, hba⟩)); refine HK_.out _ _ (wld_ofA) ?_; clear HK_)
      (refine tree_quiet (by simp only [List.getElem?_toArray, List.getElem?_cons_succ, List.getElem?_cons_zero]; rfl) (by rfl) (by rfl) (fun K_ hK_ => ?_); go_big_quiet_op; refine hK_ _ ?_; clear hK_ K_)
      (refine tree_quiet (by simp only [List.getElem?_toArray, List.getElem?_cons_succ, List.getElem?_cons_zero]; rfl) (by rfl) (by rfl) (fun K_ hK_ => ?_); go_big_quiet_op; refine hK_ _ ?_; clear hK_ K_)
      refine tree_nil ?_
      clear hG_
      go_wp2_with fail
      refine bodyPost_ret (v := .tuple #[.int .i64 (x : Nat), .bool true]) (by simp [results, Tryd.results69, go_sem]) rfl ?_
      exact ⟨.inl HRES.out, HBV.out.trans ((HB2.out.trans (Below.mono (show Below V2.heap.size V2 _ from blw) hz2)).mono (by omega))⟩
  · obtain rfl : r = L := by omega
    have HRES := Lib.hid (show ∀ q ∈ ps, ¬ ((q.first : Nat) ≤ id ∧ id ≤ (q.last : Nat)) from fun q hq hin => by
      obtain ⟨i, hi, rfl⟩ := List.getElem_of_mem hq
      have := HLW.out _ i (by rw [← HLL.out]; exact hi) (List.getElem?_eq_getElem hi)
      omega)
    go_wp2_with fail
    refine wp_region_tree (.step 0 (.step 1 (.step 2 (.step 3 (.step 4 (.step 5 (.step 6 (.step 7 (.step 8 (.step 9 (.step 10 (.step 11 (.step 12 (.step 13 (.step 14 (.step 15 (.step 16 (.step 17 (.step 18 .nil))))))))))))))))))) (by kernel_rfl) (by kernel_rfl) (by kernel_rfl) (by kernel_rfl) (by intro _ _ d_ _ _ h_; cases d_ <;> first | exact h_ | (dsimp +zetaDelta only at h_ ⊢; exact h_)) (fun w' => ∃ p : Wld V [], w' = p.val) (wld_start _ _) ?_
    have hG_ := @wldC V
    (refine tree_quiet (by simp only [List.getElem?_toArray, List.getElem?_cons_succ, List.getElem?_cons_zero]; rfl) (by rfl) (by rfl) (fun K_ hK_ => ?_); go_big_quiet_op; refine hK_ _ ?_; clear hK_ K_)
    (refine tree_quiet (by simp only [List.getElem?_toArray, List.getElem?_cons_succ, List.getElem?_cons_zero]; rfl) (by rfl) (by rfl) (fun K_ hK_ => ?_); go_big_quiet_op; refine hK_ _ ?_; clear hK_ K_)
    (refine tree_quiet (by simp only [List.getElem?_toArray, List.getElem?_cons_succ, List.getElem?_cons_zero]; rfl) (by rfl) (by rfl) (fun K_ hK_ => ?_); go_big_quiet_op; refine hK_ _ ?_; clear hK_ K_)
    (refine tree_quiet (by simp only [List.getElem?_toArray, List.getElem?_cons_succ, List.getElem?_cons_zero]; rfl) (by rfl) (by rfl) (fun K_ hK_ => ?_); go_big_quiet_op; refine hK_ _ ?_; clear hK_ K_)
    (refine tree_quiet (by simp only [List.getElem?_toArray, List.getElem?_cons_succ, List.getElem?_cons_zero]; rfl) (by rfl) (by rfl) (fun K_ hK_ => ?_); go_big_quiet_op; refine hK_ _ ?_; clear hK_ K_)
    (refine tree_quiet (by simp only [List.getElem?_toArray, List.getElem?_cons_succ, List.getElem?_cons_zero]; rfl) (by rfl) (by rfl) (fun K_ hK_ => ?_); go_big_quiet_op; refine hK_ _ ?_; clear hK_ K_)
    (refine tree_quiet (by simp only [List.getElem?_toArray, List.getElem?_cons_succ, List.getElem?_cons_zero]; rfl) (by rfl) (by rfl) (fun K_ hK_ => ?_); go_big_quiet_op; refine hK_ _ ?_; clear hK_ K_)
    (refine tree_quiet (by simp only [List.getElem?_toArray, List.getElem?_cons_succ, List.getElem?_cons_zero]; rfl) (by rfl) (by rfl) (fun K_ hK_ => ?_); go_big_quiet_op; refine hK_ _ ?_; clear hK_ K_)
    refine tree_skip (by simp only [List.getElem?_toArray, List.getElem?_cons_succ, List.getElem?_cons_zero]; rfl) (by rfl) ?_; dsimp only [Act.put]; simp only [List.setIfInBounds_toArray, List.set_cons_succ, List.set_cons_zero]
    refine tree_skip (by simp only [List.getElem?_toArray, List.getElem?_cons_succ, List.getElem?_cons_zero]; rfl) (by rfl) ?_; dsimp only [Act.put]; simp only [List.setIfInBounds_toArray, List.set_cons_succ, List.set_cons_zero]
    refine tree_skip (by simp only [List.getElem?_toArray, List.getElem?_cons_succ, List.getElem?_cons_zero]; rfl) (by rfl) ?_; dsimp only [Act.put]; simp only [List.setIfInBounds_toArray, List.set_cons_succ, List.set_cons_zero]
    refine tree_skip (by simp only [List.getElem?_toArray, List.getElem?_cons_succ, List.getElem?_cons_zero]; rfl) (by rfl) ?_; dsimp only [Act.put]; simp only [List.setIfInBounds_toArray, List.set_cons_succ, List.set_cons_zero]
    refine tree_skip (by simp only [List.getElem?_toArray, List.getElem?_cons_succ, List.getElem?_cons_zero]; rfl) (by rfl) ?_; dsimp only [Act.put]; simp only [List.setIfInBounds_toArray, List.set_cons_succ, List.set_cons_zero]
    refine tree_skip (by simp only [List.getElem?_toArray, List.getElem?_cons_succ, List.getElem?_cons_zero]; rfl) (by rfl) ?_; dsimp only [Act.put]; simp only [List.setIfInBounds_toArray, List.set_cons_succ, List.set_cons_zero]
    refine tree_skip (by simp only [List.getElem?_toArray, List.getElem?_cons_succ, List.getElem?_cons_zero]; rfl) (by rfl) ?_; dsimp only [Act.put]; simp only [List.setIfInBounds_toArray, List.set_cons_succ, List.set_cons_zero]
    refine tree_skip (by simp only [List.getElem?_toArray, List.getElem?_cons_succ, List.getElem?_cons_zero]; rfl) (by rfl) ?_; dsimp only [Act.put]; simp only [List.setIfInBounds_toArray, List.set_cons_succ, List.set_cons_zero]
    refine tree_skip (by simp only [List.getElem?_toArray, List.getElem?_cons_succ, List.getElem?_cons_zero]; rfl) (by rfl) ?_; dsimp only [Act.put]; simp only [List.setIfInBounds_toArray, List.set_cons_succ, List.set_cons_zero]
    refine tree_skip (by simp only [List.getElem?_toArray, List.getElem?_cons_succ, List.getElem?_cons_zero]; rfl) (by rfl) ?_; dsimp only [Act.put]; simp only [List.setIfInBounds_toArray, List.set_cons_succ, List.set_cons_zero]
    (refine tree_quiet (by simp only [List.getElem?_toArray, List.getElem?_cons_succ, List.getElem?_cons_zero]; rfl) (by rfl) (by rfl) (fun K_ hK_ => ?_); go_big_quiet_op; refine hK_ _ ?_; clear hK_ K_)
    refine tree_nil ?_
    clear hG_
    go_wp2_with fail
    refine bodyPost_ret (v := .tuple #[.int .i64 0, .bool false]) (by simp [results, Tryd.results69, go_sem]) rfl ?_
    exact ⟨.inr ⟨HRES.out, rfl⟩, HBV.out.trans (Below.mono (show Below V.heap.size V _ from blw) (by omega))⟩
end Go.Proofs.YthjnpfhcjacibaaDoor
end
section

/- The contract of seek.isEnd. Conditions: the row has all keys. -/
namespace Go.Proofs.YthjnpfhcjacibaaDoor
open Go.RowKit

def allFF (T : List UInt8) (K : Nat) : Bool := (List.range K).all fun i => num T (2 * i) 2 == 65535
theorem allFF_of (T : List UInt8) (K : Nat) (h : ∀ j, j < K → num T (2 * j) 2 = 65535) : allFF T K = true := by
  simp only [allFF, List.all_eq_true, List.mem_range, beq_iff_eq]; exact h
theorem allFF_not (T : List UInt8) (K i : Nat) (hi : i < K) (h : num T (2 * i) 2 ≠ 65535) : allFF T K = false := by
  simp only [allFF, List.all_eq_false, List.mem_range, beq_iff_eq]; exact ⟨i, hi, h⟩
def EndRel (T : List UInt8) (K : Nat) (w : World) (v : Value) (i : Value) (wr : World) : Prop :=
  ∃ k : Nat, k ≤ K ∧ i = .int .i64 (k : Nat) ∧ (∀ j, j < k → num T (2 * j) 2 = 65535) ∧ wr.cell? ⟨w.heap.size, 0, none⟩ = some v ∧ Below w.heap.size w wr ∧ w.heap.size < wr.heap.size

set_option maxRecDepth 100000 in
set_option maxHeartbeats 1600000 in
theorem isEnd_any (A : Option Addr) (S C K : Nat) (T : List UInt8) (w : World) (h : Has w A (bytesV T)) (hl : T.length = S) (hk : 2 * K ≤ S) (hn : S ≤ C) (hc : C ≤ maxLen) :
    Calls Tryd.prog 72 #[.agg #[.slice A S C], .int .i64 (K : Nat)] w fun e w' => e = .returned (.bool (allFF T K)) ∧ Below w.heap.size w w' := by
  have HH := Lib.hid h
  have HL := Lib.hid hl
  have hcm := hc
  unfold maxLen at hcm
  clear h hl
  have hAC := allocC
  have hAF := allocF
  go_enter Tryd.func72, Tryd.ntmps72
  go_wp2_with fail
  go_loopw [7] (EndRel T K w (.slice A S C)) (fun i _ => K - (Go.RowKit.intOf i).toNat)
  case atStart => exact ⟨0, Nat.zero_le _, rfl, fun j hj => by omega, by simp [hAC], (by repeat (first | with_reducible exact brefl _ | with_reducible assumption | (with_reducible refine bset ?_ (by first | (simp; done) | (simp; omega)) _) | with_reducible refine balloc ?_ _ | with_reducible refine bdrew ?_ _ | with_reducible refine bdrew1 ?_ | with_reducible refine bthen ?_ (by assumption) | with_reducible refine Below.trans ?_ (by assumption) | exact brefl _ | assumption | refine balloc ?_ _ | refine bdrew ?_ _ | refine bdrew1 ?_ | refine bthen ?_ (by assumption) | refine Below.trans ?_ (by assumption) | (refine bset ?_ (by first | (simp; done) | (simp; omega)) _))), by simp⟩
  case round =>
    obtain ⟨k, hk', rfl, hall, c0, hb, hz⟩ := hrel
    have HA := Lib.hid hall
    have HB := Lib.hid hb
    clear hall hb
    by_cases hlt : k < K
    · have HU := Lib.hid (fun W hw => u16_z A S C (2 * k) (2 * (k : Int)) (by omega) T W hw HL.out (by omega) hn hc)
      have hq2 := num2_lt T (2 * k)
      have HQ := Lib.hid (show num T (2 * k) 2 = num T (2 * k) 2 from rfl)
      generalize hq : num T (2 * k) 2 = q at *
      have HQ := Lib.hid hq
      clear hq
      by_cases he : q = 65535
      · have hd : ((q : Int) != 65535) = false := by simp [he]
        have HE := Lib.hid he
        clear he
        go_wp2_with (first | (go_at_call 58; (with_reducible refine (HU.out _ (HH.out.below HB.out)).mono ?_); rintro e w2 ⟨rfl, hb2⟩; have h2c := bc hb2; have h2f := bf hb2; have h2z := hb2.size; try simp only [World.size_alloc, World.size_drew] at h2z))
        go_roundw
        case rel => exact ⟨k + 1, hlt, by go_num, fun j hj => (by
          rcases Nat.lt_or_ge j k with g | g
          · exact HA.out j g
          · obtain rfl : j = k := by omega
            rw [HQ.out, HE.out]), by rw [h2c, if_pos hz]; exact c0, HB.out.trans (hb2.mono HB.out.size), by omega⟩
        case measure => simp [Go.RowKit.intOf]; omega
      · have hd : ((q : Int) != 65535) = true := by simp; omega
        have HE := Lib.hid (allFF_not T K k hlt (by rw [HQ.out]; exact he))
        clear he
        go_wp2_with (first | (go_at_call 58; (with_reducible refine (HU.out _ (HH.out.below HB.out)).mono ?_); rintro e w2 ⟨rfl, hb2⟩; have h2c := bc hb2; have h2f := bf hb2; have h2z := hb2.size; try simp only [World.size_alloc, World.size_drew] at h2z))
        go_ret
        exact ⟨by rw [HE.out]; rfl, HB.out.trans (hb2.mono HB.out.size)⟩
    · obtain rfl : k = K := by omega
      go_wp2
      go_ret
      exact ⟨by rw [allFF_of T k HA.out]; rfl, HB.out⟩
end Go.Proofs.YthjnpfhcjacibaaDoor
end
section

/- The contract of seek.Take. Conditions: as many bytes as the slice says; need at least 2, keys at least 1, and need at least twice keys. -/
namespace Go.Proofs.YthjnpfhcjacibaaDoor
open Go.RowKit

def skS (bs : List UInt8) (k : Nat) : Nat := num bs k 2
def skN (bs : List UInt8) (k : Nat) : Nat := num bs (k + 2) 2
structure skOk (bs : List UInt8) (k need : Nat) : Prop where
  head : k + 10 ≤ bs.length
  size : need ≤ skS bs k
  rows : k + 10 + skN bs k * skS bs k ≤ bs.length
def rowB (bs : List UInt8) (p s : Nat) : List UInt8 := (bs.drop p).take s
def skEnd (bs : List UInt8) (k keys : Nat) : Bool := decide (0 < skN bs k) && allFF (rowB bs (k + 10 + (skN bs k - 1) * skS bs k) (skS bs k)) keys
def skM (bs : List UInt8) (k keys : Nat) : Nat := if skEnd bs k keys = true then skN bs k - 1 else skN bs k
def rowV (a : Option Addr) (c p s : Nat) : Value := .slice (adv a c p) s (c - p)
def rowsV (a : Option Addr) (c k S M : Nat) : List Value := (List.range M).map fun i => rowV a c (k + 10 + i * S) S
theorem view_info : (Tryd.prog.info? 58).map (fun i => (i.zero, i.size, i.bytes)) = some (some (.agg #[.slice none 0 0]), 1, 24) := by kernel_rfl
theorem adv_adv (a : Option Addr) (c p q : Nat) (h : p + q < c) : adv (adv a c p) (c - p) q = adv a c (p + q) := by
  unfold adv
  rw [if_neg (by omega), if_neg (by omega), if_neg (by omega)]
  cases a with
  | none => rfl
  | some x =>
    obtain ⟨b, o, s⟩ := x
    simp only [Option.map_some, Option.some.injEq, Addr.add]
    by_cases h1 : p = 0 <;> by_cases h2 : q = 0 <;> simp [h1, h2, Nat.add_assoc]
def zerosV (m : Nat) : List Value := List.replicate m (.slice none 0 0)
theorem made_views (n : Nat) : (madeCells (Value.agg #[.slice none 0 0]).cells (n * 1)).toList = zerosV n := by
  apply List.ext_getElem?
  intro j
  simp only [madeCells, Value.cells, zerosV]
  by_cases h : j < n
  · simp [h, Nat.mod_one]
  · simp [h]
theorem zerosV_succ (m : Nat) : zerosV (m + 1) = .slice none 0 0 :: zerosV m := rfl
def STakeRel (W : World) (g g5 : Nat) (a : Option Addr) (c k S M : Nat) (V : Value) (i : Value) (wr : World) : Prop :=
  ∃ j, j ≤ M ∧ i = .int .i64 (j : Nat) ∧ wr.ownsRow W.heap.size 58 1 (.slice (some ⟨g, 0, none⟩) M M) M (rowsV a c k S j ++ zerosV (M - j)) ∧ wr.cell? ⟨g5, 0, none⟩ = some V ∧ Below W.heap.size W wr
def STakeIs (bs : List UInt8) (a : Option Addr) (c : Nat) (k : Int) (need keys : Nat) (w : World) (e : Ending) (w' : World) : Prop :=
  ((∃ j g : Nat, k = (j : Nat) ∧ skOk bs j need ∧ e = .returned (.slice (some ⟨g, 0, none⟩) (skM bs j keys) (skM bs j keys)) ∧ w'.ownsRow w.heap.size 58 1 (.slice (some ⟨g, 0, none⟩) (skM bs j keys) (skM bs j keys)) (skM bs j keys) (rowsV a c j (skS bs j) (skM bs j keys))) ∨
    ((∀ j : Nat, k = (j : Nat) → ¬ skOk bs j need) ∧ e = .panicked thrown)) ∧ Below w.heap.size w w'

theorem stake_step {w wr w' : World} {g5 gm k S M j c : Nat} {a : Option Addr} {V i : Value} (hlt : k < M) (hi : i = .int .i64 ((k + 1 : Nat) : Int)) (hO : wr.ownsRow w.heap.size 58 1 (.slice (some ⟨gm, 0, none⟩) M M) M (rowsV a c j S k ++ zerosV (M - k)))
    (d5 : wr.cell? ⟨g5, 0, none⟩ = some V) (hb : Below w.heap.size w wr) (hb6 : Below w.heap.size wr w') (hb7 : Below wr.heap.size wr w') (h5 : g5 < gm) (hg : w.heap.size ≤ gm) :
    STakeRel w gm g5 a c j S M V i (w'.setCell ⟨gm, k, none⟩ (rowV a c (j + 10 + k * S) S)) := by
  have h1 := owns_below hO hb7 (Nat.le_refl _)
  refine ⟨k + 1, hlt, hi, ?_, ?_, bset (hb.trans hb6) hg _⟩
  · refine owns_eq (h1.stored k (rowV a c (j + 10 + k * S) S)).1 ?_
    obtain ⟨m, hm⟩ : ∃ m, M - k = m + 1 := ⟨M - k - 1, by omega⟩
    have hl : (rowsV a c j S k).length = k := by simp [rowsV]
    rw [hm, zerosV_succ, List.set_append_right _ _ (by omega), hl, Nat.sub_self, List.set_cons_zero, show M - (k + 1) = m by omega]
    simp [rowsV, List.range_succ]
  · rw [cell_other _ (by simp; omega)]
    exact (hb7.cell (p := ⟨g5, 0, none⟩) (cell_lt d5)).trans d5

set_option maxRecDepth 100000 in
set_option maxHeartbeats 1600000 in
theorem stake_any (a : Option Addr) (n c : Nat) (bs : List UInt8) (k : Int) (need keys : Nat) (w : World) (h : Has w a (bytesV bs)) (hl : bs.length = n) (hn : n ≤ c) (hc : c ≤ maxLen) (hk : -9223372036854775808 ≤ k ∧ k ≤ 9223372036854775807)
    (h2 : 2 ≤ need) (hn63 : need ≤ 9223372036854775807) (h1 : 1 ≤ keys) (hkn : 2 * keys ≤ need) :
    Calls Tryd.prog 60 #[.agg #[.slice a n c], .int .i64 k, .int .i64 (need : Nat), .int .i64 (keys : Nat)] w (STakeIs bs a c k need keys w) := by
  have HH := Lib.hid h
  have HL := Lib.hid hl
  have hcm := hc
  unfold maxLen at hcm
  clear h hl
  have hAC := allocC
  have hAF := allocF
  obtain ⟨hk1, hk2⟩ := hk
  by_cases hin : 0 ≤ k ∧ k + 10 ≤ n
  case neg =>
    have HCB := Lib.hid (fun W => cut_bad a n c k 10 W (by omega) hn hc)
    have HNO := Lib.hid (show ∀ j : Nat, k = (j : Nat) → ¬ skOk bs j need from fun j hj ho => hin (by have := ho.head; rw [HL.out] at this; omega))
    clear hin
    go_enter Tryd.func60, Tryd.ntmps60
    go_wp2_with (first | (go_at_call 57; (with_reducible refine (HCB.out _).mono ?_); rintro e w1 ⟨rfl, hb1⟩; have h1c := bc hb1; have h1f := bf hb1; have h1z := hb1.size; try simp only [World.size_alloc, World.size_drew] at h1z))
    exact ⟨rfl, .inr ⟨HNO.out, rfl⟩, (by repeat (first | with_reducible exact brefl _ | with_reducible assumption | (with_reducible refine bset ?_ (by first | (simp; done) | (simp; omega)) _) | with_reducible refine balloc ?_ _ | with_reducible refine bdrew ?_ _ | with_reducible refine bdrew1 ?_ | with_reducible refine bthen ?_ (by assumption) | with_reducible refine Below.trans ?_ (by assumption) | exact brefl _ | assumption | refine balloc ?_ _ | refine bdrew ?_ _ | refine bdrew1 ?_ | refine bthen ?_ (by assumption) | refine Below.trans ?_ (by assumption) | (refine bset ?_ (by first | (simp; done) | (simp; omega)) _)))⟩
  obtain ⟨hk0, hkn'⟩ := hin
  obtain ⟨j, rfl⟩ : ∃ j : Nat, k = j := ⟨k.toNat, by omega⟩
  have hjn : j + 10 ≤ n := by omega
  have HC1 := Lib.hid (fun W => cut_z a n c j 10 (j : Int) 10 rfl rfl W hjn hn hc)
  have hS2 := num2_lt bs j
  have hN2 := num2_lt bs (j + 2)
  have HR10 := (HH.out.adv c j (by rw [bytesV_length, HL.out]; exact hn)).take 10
  rw [bytesV_drop, bytesV_take] at HR10
  have HRL : ((bs.drop j).take 10).length = 10 := by rw [List.length_take, List.length_drop, HL.out]; omega
  have hnum0 : num ((bs.drop j).take 10) 0 2 = num bs j 2 := by rw [num_take _ _ _ (by omega), num_drop]; rfl
  have hnum2 : num ((bs.drop j).take 10) 2 2 = num bs (j + 2) 2 := by rw [num_take _ _ _ (by omega), num_drop]
  have hu0 := fun W hw => u16_z (adv a c j) 10 (c - j) 0 0 rfl ((bs.drop j).take 10) W hw HRL (by omega) (by omega) (by unfold maxLen; omega)
  have hu2 := fun W hw => u16_z (adv a c j) 10 (c - j) 2 2 rfl ((bs.drop j).take 10) W hw HRL (by omega) (by omega) (by unfold maxLen; omega)
  rw [hnum0] at hu0
  rw [hnum2] at hu2
  have HU0 := Lib.hid hu0
  have HU2 := Lib.hid hu2
  have HR := Lib.hid HR10
  have HSS := Lib.hid (show skS bs j = num bs j 2 from rfl)
  have HNN := Lib.hid (show skN bs j = num bs (j + 2) 2 from rfl)
  clear hu0 hu2 HR10 HRL hnum0 hnum2
  generalize num bs j 2 = S at *
  generalize num bs (j + 2) 2 = N at *
  go_enter Tryd.func60, Tryd.ntmps60
  go_wp2_with (first | (go_at_call 57; (with_reducible refine (HC1.out _).mono ?_); rintro e w1 ⟨rfl, hb1⟩; have h1c := bc hb1; have h1f := bf hb1; have h1z := hb1.size; try simp only [World.size_alloc, World.size_drew] at h1z))
  obtain ⟨V, hV⟩ : ∃ V, V = w1.alloc (Obj.cells #[.slice (adv a c j) 10 (c - j)] 58) := ⟨_, rfl⟩
  have c4 : V.cell? ⟨w.heap.size, 0, none⟩ = some (.slice a n c) := by
    rw [hV, hAC, if_neg (by omega), h1c, if_pos (by simp)]; simp [hAC]
  have c9 : V.cell? ⟨w1.heap.size, 0, none⟩ = some (.slice (adv a c j) 10 (c - j)) := by rw [hV]; simp [hAC]
  have hbV : Below w.heap.size w V := by rw [hV]; exact (by repeat (first | with_reducible exact brefl _ | with_reducible assumption | (with_reducible refine bset ?_ (by first | (simp; done) | (simp; omega)) _) | with_reducible refine balloc ?_ _ | with_reducible refine bdrew ?_ _ | with_reducible refine bdrew1 ?_ | with_reducible refine bthen ?_ (by assumption) | with_reducible refine Below.trans ?_ (by assumption) | exact brefl _ | assumption | refine balloc ?_ _ | refine bdrew ?_ _ | refine bdrew1 ?_ | refine bthen ?_ (by assumption) | refine Below.trans ?_ (by assumption) | (refine bset ?_ (by first | (simp; done) | (simp; omega)) _)))
  have hzV : V.heap.size = w1.heap.size + 1 := by rw [hV]; simp
  rw [← hV]
  clear hV h1c h1f hb1
  generalize hg9 : w1.heap.size = g9 at *
  have HBV := Lib.hid hbV
  have hg4l : w.heap.size < V.heap.size := by omega
  have hg9l : g9 < V.heap.size := by omega
  have h49 : w.heap.size < g9 := by omega
  clear hbV hg9
  refine wp_region_tree (.step 0 (.step 2 (.step 1 (.narrow (.step 3 (.narrow (.step 4 (.step 5 .nil)))))))) (by kernel_rfl) (by kernel_rfl) (by kernel_rfl) (by kernel_rfl) (by intro _ _ d_ _ _ h_; cases d_ <;> first | exact h_ | (dsimp +zetaDelta only at h_ ⊢; exact h_)) (fun w' => ∃ p : Wld V [], w' = p.val) (wld_start _ _) ?_
  have hG_ := @wldC V
  (refine tree_quiet (by simp only [List.getElem?_toArray, List.getElem?_cons_succ, List.getElem?_cons_zero]; rfl) (by rfl) (by rfl) (fun K_ hK_ => ?_); go_big_quiet_op; refine hK_ _ ?_; clear hK_ K_)
  (refine tree_quiet (by simp only [List.getElem?_toArray, List.getElem?_cons_succ, List.getElem?_cons_zero]; rfl) (by rfl) (by rfl) (fun K_ hK_ => ?_); go_big_quiet_op; refine hK_ _ ?_; clear hK_ K_)
  (refine tree_run (by simp only [List.getElem?_toArray, List.getElem?_cons_succ, List.getElem?_cons_zero]; rfl) (by rfl) (by rfl) (fun K_ hK_ => ?_); have HK_ := Lib.hid hK_; clear hK_; go_wp2_with (first | (go_at_call 58; (with_reducible refine (HU0.out _ (HR.out.below (HBV.out.trans (Below.mono (show Below V.heap.size V _ from (by repeat (first | with_reducible exact brefl _ | with_reducible assumption | (with_reducible refine bset ?_ (by first | (simp; done) | (simp; omega)) _) | with_reducible refine balloc ?_ _ | with_reducible refine bdrew ?_ _ | with_reducible refine bdrew1 ?_ | with_reducible refine bthen ?_ (by assumption) | with_reducible refine Below.trans ?_ (by assumption) | exact brefl _ | assumption | refine balloc ?_ _ | refine bdrew ?_ _ | refine bdrew1 ?_ | refine bthen ?_ (by assumption) | refine Below.trans ?_ (by assumption) | (refine bset ?_ (by first | (simp; done) | (simp; omega)) _)))) HBV.out.size)))).mono ?_); rintro e wa ⟨rfl, hba⟩; have hac := bc hba; have haf := bf hba; have haz := hba.size; try simp only [World.size_alloc, World.size_drew] at haz) | (go_at_call 58; (with_reducible refine (HU2.out _ (HR.out.below (HBV.out.trans (Below.mono (show Below V.heap.size V _ from (by repeat (first | with_reducible exact brefl _ | with_reducible assumption | (with_reducible refine bset ?_ (by first | (simp; done) | (simp; omega)) _) | with_reducible refine balloc ?_ _ | with_reducible refine bdrew ?_ _ | with_reducible refine bdrew1 ?_ | with_reducible refine bthen ?_ (by assumption) | with_reducible refine Below.trans ?_ (by assumption) | exact brefl _ | assumption | refine balloc ?_ _ | refine bdrew ?_ _ | refine bdrew1 ?_ | refine bthen ?_ (by assumption) | refine Below.trans ?_ (by assumption) | (refine bset ?_ (by first | (simp; done) | (simp; omega)) _)))) HBV.out.size)))).mono ?_); rintro e wb ⟨rfl, hbb⟩; have hbc := bc hbb; have hbf := bf hbb; have hbz := hbb.size; try simp only [World.size_alloc, World.size_drew] at hbz)); refine HK_.out _ _ (wld_of (by repeat (first | with_reducible exact same_below (brefl _) | with_reducible exact same_below (bdrew1 (brefl _)) | with_reducible assumption | with_reducible refine same_drew ?_ | (with_reducible refine same_set ?_ (by first | (left; simp; done) | (right; simp; done) | (right; simp; omega)) _) | with_reducible refine same_then ?_ (by assumption) | with_reducible refine same_alloc ?_ _ | exact same_below (brefl _) | exact same_realloc (by simp) | exact same_below (bdrew1 (brefl _)) | assumption | refine same_drew ?_ | refine same_then ?_ (by assumption) | refine same_alloc ?_ _ | (refine same_set ?_ (by first | (left; simp; done) | (right; simp; done) | (right; simp; omega)) _)))) ?_; clear HK_)
  refine tree_move (by repeat (first | with_reducible exact same_below (brefl _) | with_reducible exact same_below (bdrew1 (brefl _)) | with_reducible assumption | with_reducible refine same_drew ?_ | (with_reducible refine same_set ?_ (by first | (left; simp; done) | (right; simp; done) | (right; simp; omega)) _) | with_reducible refine same_then ?_ (by assumption) | with_reducible refine same_alloc ?_ _ | exact same_below (brefl _) | exact same_realloc (by simp) | exact same_below (bdrew1 (brefl _)) | assumption | refine same_drew ?_ | refine same_then ?_ (by assumption) | refine same_alloc ?_ _ | (refine same_set ?_ (by first | (left; simp; done) | (right; simp; done) | (right; simp; omega)) _))) ?_; clear hG_; intro hG_
  (refine tree_run (by simp only [List.getElem?_toArray, List.getElem?_cons_succ, List.getElem?_cons_zero]; rfl) (by rfl) (by rfl) (fun K_ hK_ => ?_); have HK_ := Lib.hid hK_; clear hK_; go_wp2_with (first | (go_at_call 58; (with_reducible refine (HU0.out _ (HR.out.below (HBV.out.trans (Below.mono (show Below V.heap.size V _ from (by repeat (first | with_reducible exact brefl _ | with_reducible assumption | (with_reducible refine bset ?_ (by first | (simp; done) | (simp; omega)) _) | with_reducible refine balloc ?_ _ | with_reducible refine bdrew ?_ _ | with_reducible refine bdrew1 ?_ | with_reducible refine bthen ?_ (by assumption) | with_reducible refine Below.trans ?_ (by assumption) | exact brefl _ | assumption | refine balloc ?_ _ | refine bdrew ?_ _ | refine bdrew1 ?_ | refine bthen ?_ (by assumption) | refine Below.trans ?_ (by assumption) | (refine bset ?_ (by first | (simp; done) | (simp; omega)) _)))) HBV.out.size)))).mono ?_); rintro e wa ⟨rfl, hba⟩; have hac := bc hba; have haf := bf hba; have haz := hba.size; try simp only [World.size_alloc, World.size_drew] at haz) | (go_at_call 58; (with_reducible refine (HU2.out _ (HR.out.below (HBV.out.trans (Below.mono (show Below V.heap.size V _ from (by repeat (first | with_reducible exact brefl _ | with_reducible assumption | (with_reducible refine bset ?_ (by first | (simp; done) | (simp; omega)) _) | with_reducible refine balloc ?_ _ | with_reducible refine bdrew ?_ _ | with_reducible refine bdrew1 ?_ | with_reducible refine bthen ?_ (by assumption) | with_reducible refine Below.trans ?_ (by assumption) | exact brefl _ | assumption | refine balloc ?_ _ | refine bdrew ?_ _ | refine bdrew1 ?_ | refine bthen ?_ (by assumption) | refine Below.trans ?_ (by assumption) | (refine bset ?_ (by first | (simp; done) | (simp; omega)) _)))) HBV.out.size)))).mono ?_); rintro e wb ⟨rfl, hbb⟩; have hbc := bc hbb; have hbf := bf hbb; have hbz := hbb.size; try simp only [World.size_alloc, World.size_drew] at hbz)); refine HK_.out _ _ (wld_of (by repeat (first | with_reducible exact same_below (brefl _) | with_reducible exact same_below (bdrew1 (brefl _)) | with_reducible assumption | with_reducible refine same_drew ?_ | (with_reducible refine same_set ?_ (by first | (left; simp; done) | (right; simp; done) | (right; simp; omega)) _) | with_reducible refine same_then ?_ (by assumption) | with_reducible refine same_alloc ?_ _ | exact same_below (brefl _) | exact same_realloc (by simp) | exact same_below (bdrew1 (brefl _)) | assumption | refine same_drew ?_ | refine same_then ?_ (by assumption) | refine same_alloc ?_ _ | (refine same_set ?_ (by first | (left; simp; done) | (right; simp; done) | (right; simp; omega)) _)))) ?_; clear HK_)
  refine tree_move (by repeat (first | with_reducible exact same_below (brefl _) | with_reducible exact same_below (bdrew1 (brefl _)) | with_reducible assumption | with_reducible refine same_drew ?_ | (with_reducible refine same_set ?_ (by first | (left; simp; done) | (right; simp; done) | (right; simp; omega)) _) | with_reducible refine same_then ?_ (by assumption) | with_reducible refine same_alloc ?_ _ | exact same_below (brefl _) | exact same_realloc (by simp) | exact same_below (bdrew1 (brefl _)) | assumption | refine same_drew ?_ | refine same_then ?_ (by assumption) | refine same_alloc ?_ _ | (refine same_set ?_ (by first | (left; simp; done) | (right; simp; done) | (right; simp; omega)) _))) ?_; clear hG_; intro hG_
  (refine tree_quiet (by simp only [List.getElem?_toArray, List.getElem?_cons_succ, List.getElem?_cons_zero]; rfl) (by rfl) (by rfl) (fun K_ hK_ => ?_); go_big_quiet_op; refine hK_ _ ?_; clear hK_ K_)
  (refine tree_quiet (by simp only [List.getElem?_toArray, List.getElem?_cons_succ, List.getElem?_cons_zero]; rfl) (by rfl) (by rfl) (fun K_ hK_ => ?_); go_big_quiet_op; refine hK_ _ ?_; clear hK_ K_)
  refine tree_nil ?_
  clear hG_
  have hVb : Below V.heap.size V wb := (by repeat (first | with_reducible exact brefl _ | with_reducible assumption | (with_reducible refine bset ?_ (by first | (simp; done) | (simp; omega)) _) | with_reducible refine balloc ?_ _ | with_reducible refine bdrew ?_ _ | with_reducible refine bdrew1 ?_ | with_reducible refine bthen ?_ (by assumption) | with_reducible refine Below.trans ?_ (by assumption) | exact brefl _ | assumption | refine balloc ?_ _ | refine bdrew ?_ _ | refine bdrew1 ?_ | refine bthen ?_ (by assumption) | refine Below.trans ?_ (by assumption) | (refine bset ?_ (by first | (simp; done) | (simp; omega)) _)))
  have d4 := (hVb.cell (p := ⟨w.heap.size, 0, none⟩) hg4l).trans c4
  have hzb := hVb.size
  have hB2 := HBV.out.trans (hVb.mono HBV.out.size)
  have HB2 := Lib.hid hB2
  have hg4b : w.heap.size < wb.heap.size := by omega
  clear c4 c9 hVb hB2 hba hbb hac haf hbc hbf HU0 HU2 HR HBV
  rename_i wa_
  by_cases hsz : need ≤ S
  case neg =>
    have HNO := Lib.hid (show ∀ i : Nat, ((j : Nat) : Int) = (i : Nat) → ¬ skOk bs i need from fun i hi ho => hsz (by obtain rfl : j = i := (by omega); have := ho.size; rw [HSS.out] at this; exact this))
    go_wp2_with (first | (go_at_call 45; refine (need_f _ (by first | rfl | (simp; omega)) _).mono ?_; rintro e w_ ⟨rfl, rfl⟩))
    exact ⟨rfl, .inr ⟨HNO.out, rfl⟩, HB2.out⟩
  have hS0 : 0 < S := by omega
  have hfe : (N ≤ (n - (j + 10)) / S) ↔ j + 10 + N * S ≤ n := by
    rw [Nat.le_div_iff_mul_le hS0]; omega
  by_cases hfit : N ≤ (n - (j + 10)) / S
  case neg =>
    have HNO := Lib.hid (show ∀ i : Nat, ((j : Nat) : Int) = (i : Nat) → ¬ skOk bs i need from fun i hi ho => by
      obtain rfl : j = i := by omega
      have := ho.rows
      rw [HSS.out, HNN.out, HL.out] at this
      exact hfit (hfe.2 this))
    have HRB := Lib.hid (fun W => rows_bad a n c ((j : Int) + 10) (N : Nat) (S : Nat) W (by omega) (by omega) (by
      rintro ⟨_, _, _, _, hx | hx⟩
      · omega
      · rw [show ((j : Int) + 10).toNat = j + 10 by omega] at hx
        simp only [Int.toNat_natCast] at hx
        exact hfit hx) hn hc)
    clear hfit hfe
    go_wp2_with (first | (go_at_call 45; refine (need_t _ (by first | rfl | (simp; omega)) _).mono ?_; rintro e w_ ⟨rfl, rfl⟩) | (go_at_call 71; (with_reducible refine (HRB.out _).mono ?_); rintro e w3 ⟨rfl, hb3⟩; have h3c := bc hb3; have h3f := bf hb3; have h3z := hb3.size; try simp only [World.size_alloc, World.size_drew] at h3z))
    exact ⟨rfl, .inr ⟨HNO.out, rfl⟩, HB2.out.trans (hb3.mono (by omega))⟩
  have hfit2 := hfe.1 hfit
  have HRW := Lib.hid (fun W => rows_z a n c (j + 10) N S (N * S) ((j : Int) + 10) (N : Nat) (S : Nat) (by omega) rfl rfl W rfl (by omega) (.inr hfit) (by omega) (by omega) hn hc)
  have HOK := Lib.hid (show skOk bs j need from ⟨by rw [HL.out]; omega, by rw [HSS.out]; exact hsz, by rw [HSS.out, HNN.out, HL.out]; exact hfit2⟩)
  clear hfit hfe
  have HNS := Lib.hid (show N * S ≤ n from by omega)
  have hns : N * S ≤ n := HNS.out
  by_cases hN0 : 0 < N
  case neg =>
    have HM := Lib.hid (show skM bs j keys = N from by unfold skM skEnd; rw [HNN.out]; simp [hN0])
    go_wp2_with (first
      | (go_at_call 45; refine (need_t _ (by first | rfl | (simp; omega)) _).mono ?_; rintro e w_ ⟨rfl, rfl⟩)
      | (go_at_call 71; (with_reducible refine (HRW.out _).mono ?_); rintro e w3 ⟨rfl, hb3⟩; have h3c := bc hb3; have h3f := bf hb3; have h3z := hb3.size; try simp only [World.size_alloc, World.size_drew] at h3z)
      | (at_make; refine wpMake _ rfl _ _ 128 rfl w.heap.size 58 (.agg #[.slice none 0 0]) 1 24 Tryd.underlying128 view_info N rfl rfl (by omega) (by unfold maxLen; omega) (by first | omega | (simp; omega)) ?_; intro w4 hown hb4; have hz4 := hb4.size; (try simp only [World.size_alloc] at hz4); (try simp only [World.size_alloc] at hown); have HO := Lib.hid hown; have HB4 := Lib.hid hb4; clear hown hb4))
    have HBW := Lib.hid (show Below w.heap.size w w4 from by have hb4 := HB4.out; exact HB2.out.trans (Below.mono (show Below wb.heap.size wb w4 from (by repeat (first | with_reducible exact brefl _ | with_reducible assumption | (with_reducible refine bset ?_ (by first | (simp; done) | (simp; omega)) _) | with_reducible refine balloc ?_ _ | with_reducible refine bdrew ?_ _ | with_reducible refine bdrew1 ?_ | with_reducible refine bthen ?_ (by assumption) | with_reducible refine Below.trans ?_ (by assumption) | exact brefl _ | assumption | refine balloc ?_ _ | refine bdrew ?_ _ | refine bdrew1 ?_ | refine bthen ?_ (by assumption) | refine Below.trans ?_ (by assumption) | (refine bset ?_ (by first | (simp; done) | (simp; omega)) _)))) (by omega)))
    have c5 : w4.cell? ⟨w3.heap.size, 0, none⟩ = some (.slice (adv a c (j + 10)) (N * S) (c - (j + 10))) := (HB4.out.cell (p := ⟨w3.heap.size, 0, none⟩) (by simp; try omega)).trans (by simp [hAC])
    have hgm := (HO.out.lt _ rfl).2
    have hgn := (HO.out.lt _ rfl).1
    have g5l : w3.heap.size < w4.heap.size := by omega
    obtain ⟨gm, hgm'⟩ : ∃ gm, gm = w3.heap.size + 1 := ⟨_, rfl⟩
    rw [← hgm'] at HO hgm hgn ⊢
    have hg5m : w3.heap.size < gm := by omega
    clear HB4 h3c h3f hb3 hgm' hz4 
    generalize w3.heap.size = g5 at *
    go_loopw [50] (STakeRel w gm g5 a c j S N (.slice (adv a c (j + 10)) (N * S) (c - (j + 10)))) (fun i _ => N - (Go.RowKit.intOf i).toNat)
    case atStart => exact ⟨0, Nat.zero_le _, rfl, by have := HO.out; rw [made_views] at this; exact this, c5, HBW.out⟩
    case round =>
      obtain ⟨k, hkM, rfl, hown, d5, hbr⟩ := hrel
      have HO5 := Lib.hid hown
      have HBR := Lib.hid hbr
      have hzr := hbr.size
      clear hown hbr
      · obtain rfl : k = N := by omega
        go_wp2
        go_ret
        exact ⟨.inl ⟨j, gm, rfl, HOK.out, by rw [HM.out]; rfl, by rw [HM.out, HSS.out]; have := HO5.out; rw [Nat.sub_self, show zerosV 0 = [] from rfl, List.append_nil] at this; exact this⟩, HBR.out⟩
  obtain ⟨P, hP⟩ : ∃ P, P = N - 1 := ⟨_, rfl⟩
  have hP1 : P * S + S = N * S := by rw [← Nat.succ_mul]; congr 1; omega
  obtain ⟨q, hq⟩ : ∃ q, q = P * S := ⟨_, rfl⟩
  have HQ1 := Lib.hid (show IntKind.i64.wrap ((P : Int) * (S : Int)) = (q : Int) by rw [← Int.natCast_mul, ← hq]; exact IntWalk.i64_in _ (by omega))
  have HC5 := Lib.hid (fun W => cut_z (adv a c (j + 10)) (N * S) (c - (j + 10)) q S (q : Int) (S : Int) rfl rfl W (by omega) (by omega) (by unfold maxLen; omega))
  have hB := ((HH.out.adv c (j + 10 + q) (by rw [bytesV_length, HL.out]; exact hn)).take S)
  rw [bytesV_drop, bytesV_take] at hB
  have hBL : ((bs.drop (j + 10 + q)).take S).length = S := by rw [List.length_take, List.length_drop, HL.out]; omega
  have hIE := fun W hw => isEnd_any (adv a c (j + 10 + q)) S (c - (j + 10 + q)) keys ((bs.drop (j + 10 + q)).take S) W hw hBL (by omega) (by omega) (by unfold maxLen; omega)
  have HA := Lib.hid (show Value.slice (adv (adv a c (j + 10)) (c - (j + 10)) q) S (c - (j + 10) - q) = .slice (adv a c (j + 10 + q)) S (c - (j + 10 + q)) by rw [adv_adv _ _ _ _ (by omega), Nat.sub_sub])
  rw [HA.out] at HC5
  have HROW := Lib.hid (show skEnd bs j keys = allFF ((bs.drop (j + 10 + q)).take S) keys from by unfold skEnd rowB; rw [HNN.out, HSS.out, decide_eq_true hN0, Bool.true_and, hq, hP])
  have HB5 := Lib.hid hB
  have HPP := Lib.hid hP
  have hPN : P < N := by omega
  have HCD := Lib.hid (show P + 1 = N by omega)
  have hN1 : (1 : Int) ≤ (N : Int) := by omega
  clear hB hBL HA hq hP1 hP
  generalize hE : allFF ((bs.drop (j + 10 + q)).take S) keys = E at *
  have HIE := Lib.hid hIE
  clear hIE hE
  cases E with
  | false =>
    have HM := Lib.hid (show skM bs j keys = N from by unfold skM; rw [HROW.out, HNN.out]; rfl)
    have hNP : (N : Int) - 1 = (P : Int) := by have := HCD.out; omega
    have hq1 := HQ1.out
    have hq2 : wrap64 ((P : Int) * (S : Int)) = (q : Int) := by rw [← IntWalk.i64_left]; exact hq1
    go_wp2_with (first
      | (go_at_call 45; refine (need_t _ (by first | rfl | (simp; omega)) _).mono ?_; rintro e w_ ⟨rfl, rfl⟩)
      | (go_at_call 71; (with_reducible refine (HRW.out _).mono ?_); rintro e w3 ⟨rfl, hb3⟩; have h3c := bc hb3; have h3f := bf hb3; have h3z := hb3.size; try simp only [World.size_alloc, World.size_drew] at h3z)
      | (go_at_call 57; (with_reducible refine (HC5.out _).mono ?_); rintro e w5 ⟨rfl, hb5⟩; have h5c := bc hb5; have h5f := bf hb5; have h5z := hb5.size; try simp only [World.size_alloc, World.size_drew] at h5z)
      )
    clear hNP hq1 hq2
    refine (HIE.out _ (HB5.out.below (HB2.out.trans (Below.mono (show Below wb.heap.size wb _ from (by repeat (first | with_reducible exact brefl _ | with_reducible assumption | (with_reducible refine bset ?_ (by first | (simp; done) | (simp; omega)) _) | with_reducible refine balloc ?_ _ | with_reducible refine bdrew ?_ _ | with_reducible refine bdrew1 ?_ | with_reducible refine bthen ?_ (by assumption) | with_reducible refine Below.trans ?_ (by assumption) | exact brefl _ | assumption | refine balloc ?_ _ | refine bdrew ?_ _ | refine bdrew1 ?_ | refine bthen ?_ (by assumption) | refine Below.trans ?_ (by assumption) | (refine bset ?_ (by first | (simp; done) | (simp; omega)) _)))) (by omega))))).mono ?_
    rintro e w7 ⟨rfl, hb7⟩
    have h7c := bc hb7
    have h7f := bf hb7
    have h7z := hb7.size
    go_wp2_with (first
      | (at_make; refine wpMake _ rfl _ _ 128 rfl w.heap.size 58 (.agg #[.slice none 0 0]) 1 24 Tryd.underlying128 view_info N rfl rfl (by omega) (by unfold maxLen; omega) (by first | omega | (simp; omega)) ?_; intro w4 hown hb4; have hz4 := hb4.size; (try simp only [World.size_alloc] at hz4); (try simp only [World.size_alloc] at hown); have HO := Lib.hid hown; have HB4 := Lib.hid hb4; clear hown hb4))
    have HBW := Lib.hid (show Below w.heap.size w w4 from by have hb4 := HB4.out; exact HB2.out.trans (Below.mono (show Below wb.heap.size wb w4 from (by repeat (first | with_reducible exact brefl _ | with_reducible assumption | (with_reducible refine bset ?_ (by first | (simp; done) | (simp; omega)) _) | with_reducible refine balloc ?_ _ | with_reducible refine bdrew ?_ _ | with_reducible refine bdrew1 ?_ | with_reducible refine bthen ?_ (by assumption) | with_reducible refine Below.trans ?_ (by assumption) | exact brefl _ | assumption | refine balloc ?_ _ | refine bdrew ?_ _ | refine bdrew1 ?_ | refine bthen ?_ (by assumption) | refine Below.trans ?_ (by assumption) | (refine bset ?_ (by first | (simp; done) | (simp; omega)) _)))) (by omega)))
    have c5 : w4.cell? ⟨w3.heap.size, 0, none⟩ = some (.slice (adv a c (j + 10)) (N * S) (c - (j + 10))) := (HB4.out.cell (p := ⟨w3.heap.size, 0, none⟩) (by simp; try omega)).trans (by rw [h7c, if_pos (by omega), h5c, if_pos (by simp)]; simp [hAC])
    have hgm := (HO.out.lt _ rfl).2
    have hgn := (HO.out.lt _ rfl).1
    have g5l : w3.heap.size < w4.heap.size := by omega
    obtain ⟨gm, hgm'⟩ : ∃ gm, gm = w7.heap.size := ⟨_, rfl⟩
    rw [← hgm'] at HO hgm hgn ⊢
    have hg5m : w3.heap.size < gm := by omega
    clear HB4 h3c h3f hb3 hgm' hz4 h5c h5f hb5 h7c h7f hb7
    generalize w3.heap.size = g5 at *
    go_loopw [50] (STakeRel w gm g5 a c j S N (.slice (adv a c (j + 10)) (N * S) (c - (j + 10)))) (fun i _ => N - (Go.RowKit.intOf i).toNat)
    case atStart => exact ⟨0, Nat.zero_le _, rfl, by have := HO.out; rw [made_views] at this; exact this, c5, HBW.out⟩
    case round =>
      obtain ⟨k, hkM, rfl, hown, d5, hbr⟩ := hrel
      have HO5 := Lib.hid hown
      have HBR := Lib.hid hbr
      have hzr := hbr.size
      clear hown hbr
      by_cases hlt : k < N
      · have hks : k * S + S ≤ N * S := by rw [← Nat.succ_mul]; exact Nat.mul_le_mul_right _ (by omega)
        obtain ⟨q, hq⟩ : ∃ q, q = k * S := ⟨_, rfl⟩
        have HQ1 := Lib.hid (show IntKind.i64.wrap ((k : Int) * (S : Int)) = (q : Int) by rw [← Int.natCast_mul, ← hq]; exact IntWalk.i64_in _ (by omega))
        have HC := Lib.hid (fun W => cut_z (adv a c (j + 10)) (N * S) (c - (j + 10)) q S (q : Int) (S : Int) rfl rfl W (by omega) (by omega) (by unfold maxLen; omega))
        have HRV := Lib.hid (show Value.slice (adv (adv a c (j + 10)) (c - (j + 10)) q) S (c - (j + 10) - q) = rowV a c (j + 10 + k * S) S by rw [adv_adv _ _ _ _ (by omega), hq, rowV, Nat.sub_sub])
        have hgr := (HO5.out.lt _ rfl).2
        have hF := fun i => World.ownsRow.frozenAt HO5.out i
        have HCE := Lib.hid (own_cell HO5.out (j := k) (by omega))
        have h5r : g5 < wr.heap.size := cell_lt d5
        clear hq hks
        obtain ⟨x0, hx0⟩ := HCE.out
        have hq1 := HQ1.out
        have hq2 : wrap64 ((k : Int) * (S : Int)) = (q : Int) := by rw [← IntWalk.i64_left]; exact hq1
        go_wp2_with (first | (go_at_call 57; (with_reducible refine (HC.out _).mono ?_); rintro e w6 ⟨rfl, hb6⟩; have h6c := bc hb6; have h6f := bf hb6; have h6z := hb6.size; try simp only [World.size_alloc, World.size_drew] at h6z))
        clear hq1 hq2
        rw [HRV.out]
        go_roundw
        case rel => exact stake_step hlt (by go_num) HO5.out d5 HBR.out (hb6.mono hzr) hb6 hg5m hgn
        case measure => simp [Go.RowKit.intOf]; omega
      · obtain rfl : k = N := by omega
        go_wp2
        go_ret
        exact ⟨.inl ⟨j, gm, rfl, HOK.out, by rw [HM.out]; rfl, by rw [HM.out, HSS.out]; have := HO5.out; rw [Nat.sub_self, show zerosV 0 = [] from rfl, List.append_nil] at this; exact this⟩, HBR.out⟩
  | true =>
    have HM := Lib.hid (show skM bs j keys = P from by unfold skM; rw [HROW.out, HNN.out, HPP.out]; rfl)
    have hNP : (N : Int) - 1 = (P : Int) := by have := HCD.out; omega
    have hq1 := HQ1.out
    have hq2 : wrap64 ((P : Int) * (S : Int)) = (q : Int) := by rw [← IntWalk.i64_left]; exact hq1
    go_wp2_with (first
      | (go_at_call 45; refine (need_t _ (by first | rfl | (simp; omega)) _).mono ?_; rintro e w_ ⟨rfl, rfl⟩)
      | (go_at_call 71; (with_reducible refine (HRW.out _).mono ?_); rintro e w3 ⟨rfl, hb3⟩; have h3c := bc hb3; have h3f := bf hb3; have h3z := hb3.size; try simp only [World.size_alloc, World.size_drew] at h3z)
      | (go_at_call 57; (with_reducible refine (HC5.out _).mono ?_); rintro e w5 ⟨rfl, hb5⟩; have h5c := bc hb5; have h5f := bf hb5; have h5z := hb5.size; try simp only [World.size_alloc, World.size_drew] at h5z)
      )
    clear hq1 hq2
    refine (HIE.out _ (HB5.out.below (HB2.out.trans (Below.mono (show Below wb.heap.size wb _ from (by repeat (first | with_reducible exact brefl _ | with_reducible assumption | (with_reducible refine bset ?_ (by first | (simp; done) | (simp; omega)) _) | with_reducible refine balloc ?_ _ | with_reducible refine bdrew ?_ _ | with_reducible refine bdrew1 ?_ | with_reducible refine bthen ?_ (by assumption) | with_reducible refine Below.trans ?_ (by assumption) | exact brefl _ | assumption | refine balloc ?_ _ | refine bdrew ?_ _ | refine bdrew1 ?_ | refine bthen ?_ (by assumption) | refine Below.trans ?_ (by assumption) | (refine bset ?_ (by first | (simp; done) | (simp; omega)) _)))) (by omega))))).mono ?_
    rintro e w7 ⟨rfl, hb7⟩
    have h7c := bc hb7
    have h7f := bf hb7
    have h7z := hb7.size
    go_wp2_with (first
      | (at_make; refine wpMake _ rfl _ _ 128 rfl w.heap.size 58 (.agg #[.slice none 0 0]) 1 24 Tryd.underlying128 view_info P rfl rfl (by omega) (by unfold maxLen; omega) (by first | omega | (simp; omega)) ?_; intro w4 hown hb4; have hz4 := hb4.size; (try simp only [World.size_alloc] at hz4); (try simp only [World.size_alloc] at hown); have HO := Lib.hid hown; have HB4 := Lib.hid hb4; clear hown hb4))
    clear hNP
    have HBW := Lib.hid (show Below w.heap.size w w4 from by have hb4 := HB4.out; exact HB2.out.trans (Below.mono (show Below wb.heap.size wb w4 from (by repeat (first | with_reducible exact brefl _ | with_reducible assumption | (with_reducible refine bset ?_ (by first | (simp; done) | (simp; omega)) _) | with_reducible refine balloc ?_ _ | with_reducible refine bdrew ?_ _ | with_reducible refine bdrew1 ?_ | with_reducible refine bthen ?_ (by assumption) | with_reducible refine Below.trans ?_ (by assumption) | exact brefl _ | assumption | refine balloc ?_ _ | refine bdrew ?_ _ | refine bdrew1 ?_ | refine bthen ?_ (by assumption) | refine Below.trans ?_ (by assumption) | (refine bset ?_ (by first | (simp; done) | (simp; omega)) _)))) (by omega)))
    have c5 : w4.cell? ⟨w3.heap.size, 0, none⟩ = some (.slice (adv a c (j + 10)) (N * S) (c - (j + 10))) := (HB4.out.cell (p := ⟨w3.heap.size, 0, none⟩) (by simp; try omega)).trans (by rw [h7c, if_pos (by omega), h5c, if_pos (by simp)]; simp [hAC])
    have hgm := (HO.out.lt _ rfl).2
    have hgn := (HO.out.lt _ rfl).1
    have g5l : w3.heap.size < w4.heap.size := by omega
    obtain ⟨gm, hgm'⟩ : ∃ gm, gm = w7.heap.size := ⟨_, rfl⟩
    rw [← hgm'] at HO hgm hgn ⊢
    have hg5m : w3.heap.size < gm := by omega
    clear HB4 h3c h3f hb3 hgm' hz4 h5c h5f hb5 h7c h7f hb7
    generalize w3.heap.size = g5 at *
    go_loopw [50] (STakeRel w gm g5 a c j S P (.slice (adv a c (j + 10)) (N * S) (c - (j + 10)))) (fun i _ => P - (Go.RowKit.intOf i).toNat)
    case atStart => exact ⟨0, Nat.zero_le _, rfl, by have := HO.out; rw [made_views] at this; exact this, c5, HBW.out⟩
    case round =>
      obtain ⟨k, hkM, rfl, hown, d5, hbr⟩ := hrel
      have HO5 := Lib.hid hown
      have HBR := Lib.hid hbr
      have hzr := hbr.size
      clear hown hbr
      by_cases hlt : k < P
      · have hks : k * S + S ≤ N * S := by rw [← Nat.succ_mul]; exact Nat.mul_le_mul_right _ (by omega)
        obtain ⟨q, hq⟩ : ∃ q, q = k * S := ⟨_, rfl⟩
        have HQ1 := Lib.hid (show IntKind.i64.wrap ((k : Int) * (S : Int)) = (q : Int) by rw [← Int.natCast_mul, ← hq]; exact IntWalk.i64_in _ (by omega))
        have HC := Lib.hid (fun W => cut_z (adv a c (j + 10)) (N * S) (c - (j + 10)) q S (q : Int) (S : Int) rfl rfl W (by omega) (by omega) (by unfold maxLen; omega))
        have HRV := Lib.hid (show Value.slice (adv (adv a c (j + 10)) (c - (j + 10)) q) S (c - (j + 10) - q) = rowV a c (j + 10 + k * S) S by rw [adv_adv _ _ _ _ (by omega), hq, rowV, Nat.sub_sub])
        have hgr := (HO5.out.lt _ rfl).2
        have hF := fun i => World.ownsRow.frozenAt HO5.out i
        have HCE := Lib.hid (own_cell HO5.out (j := k) (by omega))
        have h5r : g5 < wr.heap.size := cell_lt d5
        clear hq hks
        obtain ⟨x0, hx0⟩ := HCE.out
        have hq1 := HQ1.out
        have hq2 : wrap64 ((k : Int) * (S : Int)) = (q : Int) := by rw [← IntWalk.i64_left]; exact hq1
        go_wp2_with (first | (go_at_call 57; (with_reducible refine (HC.out _).mono ?_); rintro e w6 ⟨rfl, hb6⟩; have h6c := bc hb6; have h6f := bf hb6; have h6z := hb6.size; try simp only [World.size_alloc, World.size_drew] at h6z))
        clear hq1 hq2
        rw [HRV.out]
        go_roundw
        case rel => exact stake_step hlt (by go_num) HO5.out d5 HBR.out (hb6.mono hzr) hb6 hg5m hgn
        case measure => simp [Go.RowKit.intOf]; omega
      · obtain rfl : k = P := by omega
        go_wp2
        go_ret
        exact ⟨.inl ⟨j, gm, rfl, HOK.out, by rw [HM.out]; rfl, by rw [HM.out, HSS.out]; have := HO5.out; rw [Nat.sub_self, show zerosV 0 = [] from rfl, List.append_nil] at this; exact this⟩, HBR.out⟩
end Go.Proofs.YthjnpfhcjacibaaDoor
end
section

/- What a lookup is, by its bytes: parts, and the table that they make. Conditions: as the lemmas say. -/
namespace Go.Proofs.YthjnpfhcjacibaaDoor
open Go.RowKit Go.Lib

/-- A part as the bytes tell it: its first and last glyph, where its numbers stand, how many bytes each has, whether each glyph has its own. -/
structure RP where
  first : Nat
  last : Nat
  at_ : Nat
  size : Nat
  own : Bool
def numsR (bs : List UInt8) (r : RP) : List Nat := if r.own = true then numsA (bs.drop r.at_) r.size (r.last - r.first + 1) else [num bs r.at_ r.size]
def stepR (bs : List UInt8) (s : List PartL × List Nat) (r : RP) : List PartL × List Nat :=
  (s.1 ++ [⟨r.first, r.last, s.2.length, if r.own = true then 1 else 0⟩], s.2 ++ numsR bs r)
def tabR (bs : List UInt8) (rs : List RP) : List PartL × List Nat := rs.foldl (stepR bs) ([], [])
theorem tabR_snoc (bs : List UInt8) (rs : List RP) (r : RP) : tabR bs (rs ++ [r]) = stepR bs (tabR bs rs) r := by simp [tabR, List.foldl_append]
theorem tabR_nil (bs : List UInt8) : tabR bs [] = ([], []) := rfl
def fitR (bs : List UInt8) (ps : List PartL) (r : RP) : Prop := CanAdd ps (r.first : Nat) (r.last : Nat) ∧ (r.own = true → r.at_ + (r.last - r.first + 1) * r.size ≤ bs.length)
def okR (bs : List UInt8) (rs : List RP) : Prop := ∀ i r, rs[i]? = some r → fitR bs (tabR bs (rs.take i)).1 r
def rows2 (bs : List UInt8) (S M : Nat) : List RP := (List.range M).map fun i => ⟨num bs (12 + i * skS bs 2 + 2) 2, num bs (12 + i * skS bs 2) 2, 12 + i * skS bs 2 + 4, S, false⟩
def rows4 (bs : List UInt8) (S M : Nat) : List RP := (List.range M).map fun i => ⟨num bs (12 + i * skS bs 2 + 2) 2, num bs (12 + i * skS bs 2) 2, num bs (12 + i * skS bs 2 + 4) 2, S, true⟩
def rows6 (bs : List UInt8) (S M : Nat) : List RP := (List.range M).map fun i => ⟨num bs (12 + i * skS bs 2) 2, num bs (12 + i * skS bs 2) 2, 12 + i * skS bs 2 + 2, S, false⟩
def rowsT (f m at_ S : Nat) : List RP := if m = 0 then [] else [⟨f, f + m - 1, at_, S, true⟩]
inductive LkRows (bs : List UInt8) (glyphs size : Nat) : List RP → Prop
  | all (h : 2 ≤ bs.length) (h0 : num bs 0 2 = 0) : LkRows bs glyphs size [⟨0, glyphs - 1, 2, size, true⟩]
  | two (h : 2 ≤ bs.length) (h0 : num bs 0 2 = 2) (h1 : skOk bs 2 (4 + size)) : LkRows bs glyphs size (rows2 bs size (skM bs 2 2))
  | four (h : 2 ≤ bs.length) (h0 : num bs 0 2 = 4) (h1 : skOk bs 2 6) : LkRows bs glyphs size (rows4 bs size (skM bs 2 2))
  | six (h : 2 ≤ bs.length) (h0 : num bs 0 2 = 6) (h1 : skOk bs 2 (2 + size)) : LkRows bs glyphs size (rows6 bs size (skM bs 2 1))
  | eight (h : 6 ≤ bs.length) (h0 : num bs 0 2 = 8) (h1 : num bs 2 2 + num bs 4 2 ≤ 65536) : LkRows bs glyphs size (rowsT (num bs 2 2) (num bs 4 2) 6 size)
  | ten (h : 8 ≤ bs.length) (h0 : num bs 0 2 = 10) (hu : num bs 2 2 = 1 ∨ num bs 2 2 = 2 ∨ num bs 2 2 = 4) (h1 : num bs 4 2 + num bs 6 2 ≤ 65536) : LkRows bs glyphs size (rowsT (num bs 4 2) (num bs 6 2) 8 (num bs 2 2))
structure LkOk (bs : List UInt8) (glyphs size : Nat) (rs : List RP) : Prop where
  rows : LkRows bs glyphs size rs
  ok : okR bs rs
theorem LkRows.det {bs : List UInt8} {glyphs size : Nat} {r1 r2 : List RP} (h1 : LkRows bs glyphs size r1) (h2 : LkRows bs glyphs size r2) : r1 = r2 := by
  cases h1 <;> cases h2 <;> first | rfl | omega
theorem LkOk.det {bs : List UInt8} {glyphs size : Nat} {r1 r2 : List RP} (h1 : LkOk bs glyphs size r1) (h2 : LkOk bs glyphs size r2) : r1 = r2 := h1.rows.det h2.rows
theorem okR_take {bs : List UInt8} {rs : List RP} (h : okR bs rs) (k : Nat) : okR bs (rs.take k) := fun i r hi => by
  rw [List.getElem?_take] at hi
  split at hi
  · rename_i hlt
    rw [List.take_take, Nat.min_eq_left (by omega)]
    exact h i r hi
  · cases hi
theorem okR_snoc {bs : List UInt8} {rs : List RP} {r : RP} (h : okR bs rs) (hf : fitR bs (tabR bs rs).1 r) : okR bs (rs ++ [r]) := fun i x hi => by
  rcases Nat.lt_trichotomy i rs.length with hl | hl | hl
  · rw [List.getElem?_append_left hl] at hi
    rw [List.take_append_of_le_length (by omega)]
    exact h i x hi
  · subst hl
    rw [List.getElem?_append_right (Nat.le_refl _), Nat.sub_self] at hi
    simp at hi
    subst hi
    rw [List.take_left']
    · exact hf
    · rfl
  · rw [List.getElem?_eq_none (by simp; omega)] at hi
    cases hi
theorem okR_take_succ {bs : List UInt8} {rs : List RP} {r : RP} {k : Nat} (h : okR bs (rs.take k)) (hr : rs[k]? = some r) (hf : fitR bs (tabR bs (rs.take k)).1 r) : okR bs (rs.take (k + 1)) := by
  rw [List.take_add_one, hr]
  exact okR_snoc h hf
theorem tabR_take_succ {bs : List UInt8} {rs : List RP} {r : RP} {k : Nat} (hr : rs[k]? = some r) : tabR bs (rs.take (k + 1)) = stepR bs (tabR bs (rs.take k)) r := by
  rw [List.take_add_one, hr]
  exact tabR_snoc _ _ _
theorem tabR_len (bs : List UInt8) (rs : List RP) : (tabR bs rs).1.length = rs.length := by
  suffices h : ∀ (rs : List RP) (s : List PartL × List Nat), (rs.foldl (stepR bs) s).1.length = s.1.length + rs.length by simpa [tabR] using h rs ([], [])
  intro rs
  induction rs with
  | nil => intro s; rfl
  | cons r rs ih => intro s; simp only [List.foldl_cons, ih, stepR, List.length_append, List.length_cons, List.length_nil]; omega
/-- What a table's parts and numbers keep, whatever is put behind them. -/
structure InvR (s : List PartL × List Nat) : Prop where
  rising : Rising s.1
  ok : ∀ p ∈ s.1, (p.step = 0 ∨ p.step = 1) ∧ p.at_ + p.step * (p.last - p.first) < s.2.length ∧ p.last ≤ 70000
  num : ∀ x ∈ s.2, x ≤ 4294967295
  few : ∀ p, s.1[s.1.length - 1]? = some p → s.2.length ≤ p.last + 1
  none : s.1 = [] → s.2 = []
theorem num_le4 (bs : List UInt8) (k s : Nat) (hs : s = 1 ∨ s = 2 ∨ s = 4) : num bs k s ≤ 4294967295 := by
  rcases hs with rfl | rfl | rfl
  · have := num1_le bs k; omega
  · have := num2_lt bs k; omega
  · exact num4_lt bs k
theorem InvR.step {bs : List UInt8} {s : List PartL × List Nat} {r : RP} (h : InvR s) (hf : fitR bs s.1 r) (hl : r.last ≤ 70000) (hs : r.size = 1 ∨ r.size = 2 ∨ r.size = 4) : InvR (stepR bs s r) := by
  obtain ⟨⟨h1, h2⟩, h3⟩ := hf
  have hnl : (numsR bs r).length ≤ r.last - r.first + 1 ∧ 1 ≤ (numsR bs r).length := by
    unfold numsR
    split
    · simp [numsA]
    · simp
  have hlast : s.2.length ≤ r.first := by
    by_cases he : s.1 = []
    · rw [h.none he]; simp
    · obtain ⟨p, hp⟩ : ∃ p, s.1[s.1.length - 1]? = some p := ⟨_, List.getElem?_eq_getElem (by have := List.length_pos_iff.2 he; omega)⟩
      have := h.few p hp
      have := h2 p hp
      omega
  refine ⟨⟨?_, ?_⟩, ?_, ?_, ?_, ?_⟩
  · refine List.pairwise_append.2 ⟨h.rising.1, List.pairwise_singleton _ _, fun p hp q hq => ?_⟩
    simp at hq
    subst hq
    obtain ⟨i, hi, rfl⟩ := List.getElem_of_mem hp
    have hx := List.getElem?_eq_getElem (show s.1.length - 1 < s.1.length by omega)
    have hm := h.rising.mono (show i ≤ s.1.length - 1 by omega) (List.getElem?_eq_getElem hi) hx
    have := h2 _ hx
    show s.1[i].last < r.first
    omega
  · intro p hp
    rcases List.mem_append.1 hp with hp | hp
    · exact h.rising.2 p hp
    · simp at hp
      subst hp
      show r.first ≤ r.last
      omega
  · intro p hp
    show _ ∧ _ < (s.2 ++ numsR bs r).length ∧ _
    rw [List.length_append]
    rcases List.mem_append.1 hp with hp | hp
    · obtain ⟨a1, a2, a3⟩ := h.ok p hp
      exact ⟨a1, by omega, a3⟩
    · simp at hp
      subst hp
      refine ⟨by show (if r.own = true then 1 else 0) = 0 ∨ (if r.own = true then 1 else 0) = 1; split <;> simp, ?_, hl⟩
      show s.2.length + (if r.own = true then 1 else 0) * (r.last - r.first) < _
      unfold numsR
      split
      · simp [numsA]
      · simp
  · intro x hx
    rcases List.mem_append.1 hx with hx | hx
    · exact h.num x hx
    · unfold numsR at hx
      split at hx
      · obtain ⟨i, _, rfl⟩ := List.mem_map.1 hx
        exact num_le4 _ _ _ hs
      · simp at hx
        subst hx
        exact num_le4 _ _ _ hs
  · intro p hp
    show (s.2 ++ numsR bs r).length ≤ _
    simp only [stepR, List.length_append, List.length_cons, List.length_nil] at hp
    rw [List.getElem?_append_right (by omega)] at hp
    simp at hp
    subst hp
    rw [List.length_append]
    show _ ≤ r.last + 1
    omega
  · intro he
    simp [stepR] at he
theorem InvR.nil : InvR ([], []) := ⟨⟨List.Pairwise.nil, fun p hp => by cases hp⟩, fun p hp => (by cases hp), fun x hx => (by cases hx), fun p hp => (by simp at hp), fun _ => rfl⟩
theorem invR_take (bs : List UInt8) (rs : List RP) (h : okR bs rs) (hr : ∀ r ∈ rs, r.last ≤ 70000 ∧ (r.size = 1 ∨ r.size = 2 ∨ r.size = 4)) : ∀ k, k ≤ rs.length → InvR (tabR bs (rs.take k))
  | 0, _ => by rw [List.take_zero]; exact InvR.nil
  | k + 1, hk => by
    have hx := List.getElem?_eq_getElem (show k < rs.length by omega)
    rw [tabR_take_succ hx]
    obtain ⟨r1, r2⟩ := hr _ (List.getElem_mem (show k < rs.length by omega))
    exact (invR_take bs rs h hr k (by omega)).step (h k _ hx) r1 r2
theorem invR (bs : List UInt8) (rs : List RP) (h : okR bs rs) (hr : ∀ r ∈ rs, r.last ≤ 70000 ∧ (r.size = 1 ∨ r.size = 2 ∨ r.size = 4)) : InvR (tabR bs rs) := by
  have := invR_take bs rs h hr rs.length (Nat.le_refl _)
  rwa [List.take_length] at this
theorem InvR.len {s : List PartL × List Nat} (h : InvR s) : s.2.length ≤ 70001 := by
  by_cases he : s.1 = []
  · rw [h.none he]; simp
  · have hx := List.getElem?_eq_getElem (show s.1.length - 1 < s.1.length by have := List.length_pos_iff.2 he; omega)
    have := h.few _ hx
    have := (h.ok _ (List.getElem_mem (show s.1.length - 1 < s.1.length by have := List.length_pos_iff.2 he; omega))).2.2
    omega
theorem InvR.fit {s : List PartL × List Nat} (h : InvR s) (hl : s.1.length ≤ 1000000) : FitL s.1 s.2 := ⟨h.rising, h.ok, h.num, hl, by have := h.len; omega⟩
theorem LkRows.each {bs : List UInt8} {glyphs size : Nat} {rs : List RP} (h : LkRows bs glyphs size rs) (hg : glyphs ≤ 65535) (hs : size = 2 ∨ size = 4) : rs.length ≤ 65535 ∧ ∀ r ∈ rs, r.last ≤ 70000 ∧ (r.size = 1 ∨ r.size = 2 ∨ r.size = 4) := by
  have hM : ∀ k, skM bs 2 k ≤ 65535 := fun k => by unfold skM skN; have := num2_lt bs (2 + 2); split <;> omega
  have hsz : size = 1 ∨ size = 2 ∨ size = 4 := by omega
  cases h with
  | all => exact ⟨by simp, fun r hr => by simp at hr; subst hr; exact ⟨by show glyphs - 1 ≤ 70000; omega, hsz⟩⟩
  | two => exact ⟨by simpa [rows2] using hM 2, fun r hr => by obtain ⟨i, _, rfl⟩ := List.mem_map.1 hr; exact ⟨Nat.le_trans (num2_lt _ _) (by omega), hsz⟩⟩
  | four => exact ⟨by simpa [rows4] using hM 2, fun r hr => by obtain ⟨i, _, rfl⟩ := List.mem_map.1 hr; exact ⟨Nat.le_trans (num2_lt _ _) (by omega), hsz⟩⟩
  | six => exact ⟨by simpa [rows6] using hM 1, fun r hr => by obtain ⟨i, _, rfl⟩ := List.mem_map.1 hr; exact ⟨Nat.le_trans (num2_lt _ _) (by omega), hsz⟩⟩
  | eight h h0 h1 =>
    unfold rowsT
    split
    · exact ⟨by simp, fun r hr => by cases hr⟩
    · exact ⟨by simp, fun r hr => by simp at hr; subst hr; exact ⟨by show num bs 2 2 + num bs 4 2 - 1 ≤ 70000; omega, hsz⟩⟩
  | ten h h0 hu h1 =>
    unfold rowsT
    split
    · exact ⟨by simp, fun r hr => by cases hr⟩
    · exact ⟨by simp, fun r hr => by simp at hr; subst hr; exact ⟨by show num bs 4 2 + num bs 6 2 - 1 ≤ 70000; omega, hu⟩⟩
theorem LkOk.fit {bs : List UInt8} {glyphs size : Nat} {rs : List RP} (h : LkOk bs glyphs size rs) (hg : glyphs ≤ 65535) (hs : size = 2 ∨ size = 4) : FitL (tabR bs rs).1 (tabR bs rs).2 := by
  obtain ⟨h1, h2⟩ := h.rows.each hg hs
  exact (invR bs rs h.ok h2).fit (by rw [tabR_len]; omega)
end Go.Proofs.YthjnpfhcjacibaaDoor
end
section

/- lookup.Take of the forms 8 and 10, of one that has too few bytes, and of others. Conditions: as many bytes as the slice says; a font's glyphs, numbers of two or four bytes. -/
namespace Go.Proofs.YthjnpfhcjacibaaDoor
open Go.RowKit Go.Lib

def TakeIs (bs : List UInt8) (glyphs size : Nat) (w : World) (e : Ending) (w' : World) : Prop :=
  ((∃ rs g, LkOk bs glyphs size rs ∧ e = .returned (.pointer (some ⟨g, 0, none⟩)) ∧ TabIs w.heap.size g (num bs 0 2) (tabR bs rs).1 (tabR bs rs).2 w') ∨ ((∀ rs, ¬ LkOk bs glyphs size rs) ∧ e = .panicked thrown)) ∧ Below w.heap.size w w'
theorem has_lt {w : World} {a : Option Addr} {bs : List UInt8} (h : Has w a (bytesV bs)) (hl : 0 < bs.length) : ∀ p, a = some p → p.block < w.heap.size := by
  intro p hp
  obtain ⟨q, hq, hc⟩ := h 0 _ (bytesV_get bs 0 hl)
  rw [hp] at hq
  cases hq
  have := cell_lt hc
  rwa [add_block] at this
theorem u16_y (a : Option Addr) (n c k : Nat) (z y : Int) (hz : z = (k : Nat)) (bs : List UInt8) (hy : ((num bs k 2 : Nat) : Int) = y) (w : World) (h : Has w a (bytesV bs)) (hl : bs.length = n) (hk : k + 2 ≤ n) (hn : n ≤ c) (hc : c ≤ maxLen) :
    Calls Tryd.prog 58 #[.agg #[.slice a n c], .int .i64 z] w fun e w' => e = .returned (.int .i64 y) ∧ Below w.heap.size w w' := by
  subst hy; exact u16_z a n c k z hz bs w h hl hk hn hc
theorem tab_new {B : Nat} (w : World) (fmt : Nat) (hB : B ≤ w.heap.size) (y : Int) (hy : ((fmt : Nat) : Int) = y) : TabIs B w.heap.size fmt [] [] (w.alloc (.cells #[.int .i64 y, .slice none 0 0, .slice none 0 0] 126)) := by
  subst hy
  exact ⟨none, 0, none, 0, by rw [heap_push, if_pos rfl]; rfl, ⟨rfl, .inl ⟨rfl, rfl⟩⟩, ⟨rfl, .inl ⟨rfl, rfl⟩⟩⟩
theorem tab_rowsT (bs : List UInt8) (f m at_ S : Nat) : (tabR bs (rowsT f m at_ S)).1 = trimPs f m ∧ (tabR bs (rowsT f m at_ S)).2 = numsA (bs.drop at_) S m := by
  unfold rowsT trimPs
  by_cases h : m = 0
  · subst h; simp [tabR, numsA]
  · simp only [if_neg h, tabR, List.foldl_cons, List.foldl_nil, stepR, numsR, if_pos, List.nil_append, List.length_nil]
    exact ⟨by simp, by rw [show f + m - 1 - f + 1 = m by omega]⟩
theorem ok_rowsT (bs : List UInt8) (f m at_ S : Nat) (ha : at_ ≤ bs.length) : okR bs (rowsT f m at_ S) ↔ m * S ≤ bs.length - at_ := by
  unfold rowsT
  by_cases h : m = 0
  · subst h; simp [okR]
  · rw [if_neg h]
    constructor
    · intro hx
      have := (hx 0 _ rfl).2 rfl
      simp only at this
      rw [show f + m - 1 - f + 1 = m by omega] at this
      omega
    · intro hx i r hr
      match i, hr with
      | 0, hr =>
        simp at hr
        subst hr
        refine ⟨(canAdd_nil _ _).2 (by show ((f : Nat) : Int) ≤ ((f + m - 1 : Nat) : Int); omega), fun _ => ?_⟩
        show at_ + (f + m - 1 - f + 1) * S ≤ bs.length
        rw [show f + m - 1 - f + 1 = m by omega]
        omega
      | i + 1, hr => simp at hr
theorem trim_at (bs : List UInt8) (k S : Nat) (hk : k ≤ bs.length) : TrimOk (bs.drop k) S ↔ k + 4 ≤ bs.length ∧ num bs k 2 + num bs (k + 2) 2 ≤ 65536 ∧ okR bs (rowsT (num bs k 2) (num bs (k + 2) 2) (k + 4) S) := by
  unfold TrimOk
  rw [num_drop, num_drop, List.length_drop, Nat.add_zero]
  constructor
  · rintro ⟨h1, h2, h3⟩
    exact ⟨by omega, h2, (ok_rowsT _ _ _ _ _ (by omega)).2 (by omega)⟩
  · rintro ⟨h1, h2, h3⟩
    have := (ok_rowsT _ _ _ _ _ (by omega)).1 h3
    exact ⟨by omega, h2, by omega⟩
set_option maxRecDepth 100000 in
set_option maxHeartbeats 3200000 in
theorem take8 (a : Option Addr) (n c : Nat) (bs : List UInt8) (glyphs size : Nat) (zg zs : Int) (hzg : zg = (glyphs : Nat)) (hzs : zs = (size : Nat)) (w : World) (hh : Has w a (bytesV bs)) (hbl : bs.length = n) (hnc : n ≤ c) (hc : c ≤ maxLen) (hS : size = 2 ∨ size = 4) (h0 : num bs 0 2 = 8) (h2 : 2 ≤ n) :
    Calls Tryd.prog 47 #[.agg #[.slice a n c], .int .i64 zg, .int .i64 zs] w (TakeIs bs glyphs size w) := by
  have hAC := allocC
  have hAF := allocF
  subst hzg hzs
  have hcm := hc
  unfold maxLen at hcm
  have HU := Lib.hid (fun W hw => u16_y a n c 0 0 8 rfl bs (by rw [h0]; rfl) W hw hbl h2 hnc hc)
  have HRE := Lib.hid (fun W => rest_z a n c 2 2 rfl W h2 hnc hc)
  have HH := Lib.hid hh
  have HH0 := Lib.hid h0
  have HTA := Lib.hid (fun (W : World) (g : Nat) (ht : TabIs w.heap.size g 8 [] [] W) (hb : Below w.heap.size w W) (hg : w.heap.size ≤ g) => trim_any w.heap.size g 8 size (size : Int) rfl (adv a c 2) (n - 2) (c - 2) (bs.drop 2) W ht hg (by omega) (by have := ((hh.below hb).adv c 2 (by rw [bytesV_length, hbl]; exact hnc)); rw [bytesV_drop] at this; exact this) (by rw [List.length_drop, hbl]) (by omega) (by unfold maxLen; omega) (advB (has_lt hh (by omega))))
  clear hh
  go_enter Tryd.func47, Tryd.ntmps47
  go_wp2_with (first | (go_at_call 58; (with_reducible refine (HU.out _ (HH.out.below (by exact blw))).mono ?_); rintro e w1 ⟨rfl, hb1⟩; have h1c := bc hb1; have h1f := bf hb1; have h1z := hb1.size; try simp only [World.size_alloc, World.size_drew] at h1z))
  have hT := tab_new (B := w.heap.size) w1 8 (by omega) 8 rfl
  have hbW : Below w.heap.size w (w1.alloc (.cells #[.int .i64 8, .slice none 0 0, .slice none 0 0] 126)) := blw
  have hg : w.heap.size ≤ w1.heap.size := by omega
  refine (HRE.out _).mono ?_
  rintro e w2 ⟨rfl, hb2⟩
  have HT2 := Lib.hid (HTA.out _ _ (hT.below hb2) (bthen hbW hb2) hg)
  have HB2 := Lib.hid (bthen hbW hb2)
  clear hT hbW hb2 h1c h1f hb1
  generalize w1.heap.size = g at *
  go_wp2_with fail
  refine HT2.out.mono ?_
  rintro e w3 ⟨(⟨hok, rfl, ht3⟩ | ⟨hno, rfl⟩), hk3⟩
  · rw [trim_at bs 2 size (by omega)] at hok
    obtain ⟨k1, k2, k3⟩ := hok
    have HOK := Lib.hid (show LkOk bs glyphs size (rowsT (num bs 2 2) (num bs 4 2) 6 size) from ⟨.eight k1 h0 k2, k3⟩)
    rw [num_drop, num_drop, List.drop_drop] at ht3
    have HT3 := Lib.hid ht3
    have HB3 := Lib.hid (HB2.out.trans hk3.below)
    clear hk3 ht3
    go_wp2_with fail
    go_ret
    obtain ⟨e1, e2⟩ := tab_rowsT bs (num bs 2 2) (num bs 4 2) 6 size
    exact ⟨.inl ⟨_, g, HOK.out, rfl, by rw [e1, e2, HH0.out]; exact HT3.out⟩, HB3.out⟩
  · rw [trim_at bs 2 size (by omega)] at hno
    refine ⟨rfl, .inr ⟨fun rs hrs => ?_, rfl⟩, HB2.out.trans hk3.below⟩
    obtain ⟨hr, hk⟩ := hrs
    cases hr with
    | eight k1 _ k2 => exact hno ⟨k1, k2, hk⟩
    | _ => omega
end Go.Proofs.YthjnpfhcjacibaaDoor
end
