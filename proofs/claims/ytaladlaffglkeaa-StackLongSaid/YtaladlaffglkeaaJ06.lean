/- Joined from: LGetT LSpec LTake8. -/
import Derived.Test.YtaladlaffglkeaaJ01
import Derived.Test.YtaladlaffglkeaaJ05
import Derived.Test.YtaladlaffglkeaaJ03
section

/- The contract of (*Table).Get. Conditions: a table in memory, its parts rising, its numbers there. -/
namespace Go.Proofs.Ytaladlaffglkeaa
open Go.RowKit Go.Lib

theorem enter_get1 (args : Array Value) (w : World) : (callFunc 126 args).run Try.prog w = .ok (.enter 126 args) w := by kernel_rfl
/-- A table's parts and numbers fit. -/
structure FitL (ps : List PartL) (ns : List Nat) : Prop where
  rising : Rising ps
  ok : ∀ p ∈ ps, (p.step = 0 ∨ p.step = 1) ∧ p.at_ + p.step * (p.last - p.first) < ns.length ∧ p.last ≤ 70000
  num : ∀ x ∈ ns, x ≤ 4294967295
  few : ps.length ≤ 1000000
  many : ns.length ≤ 100000000
theorem Rising.mono {ps : List PartL} (h : Rising ps) {i j : Nat} {p q : PartL} (hij : i ≤ j) (hp : ps[i]? = some p) (hq : ps[j]? = some q) : p.last ≤ q.last := by
  rcases Nat.lt_or_ge i j with g | g
  · obtain ⟨hi, rfl⟩ := List.getElem?_eq_some_iff.1 hp
    obtain ⟨hj, rfl⟩ := List.getElem?_eq_some_iff.1 hq
    have h1 := List.pairwise_iff_getElem.1 h.1 i j hi hj g
    have h2 := h.2 _ (List.getElem_mem hj)
    omega
  · obtain rfl : i = j := by omega
    rw [hp] at hq
    cases hq
    exact Nat.le_refl _
def lastAt (ps : List PartL) (i : Nat) : Nat := (ps[i]?.map PartL.last).getD 0
set_option maxRecDepth 100000 in
set_option maxHeartbeats 1600000 in
theorem get_any (B g fmt : Nat) (ps : List PartL) (ns : List Nat) (id : Int) (w : World) (h : TabIs B g fmt ps ns w) (hf : FitL ps ns) (hid : -9223372036854775808 ≤ id ∧ id ≤ 9223372036854775807) :
    Calls Try.prog 76 #[.pointer (some ⟨g, 0, none⟩), .int .i64 id] w fun e w' =>
      ((∃ p ∈ ps, (p.first : Nat) ≤ id ∧ id ≤ (p.last : Nat) ∧ e = .returned (.tuple #[.int .i64 (ns.getD (p.at_ + p.step * (id - p.first).toNat) 0 : Nat), .bool true])) ∨ ((∀ p ∈ ps, ¬ ((p.first : Nat) ≤ id ∧ id ≤ (p.last : Nat))) ∧ e = .returned (.tuple #[.int .i64 0, .bool false]))) ∧ Below w.heap.size w w' := by
  have hAC := allocC
  have hAF := allocF
  have hg0 : g < w.heap.size := by
    obtain ⟨_, _, _, _, h0, _⟩ := h.is
    exact (Array.getElem?_eq_some_iff.1 h0).1
  obtain ⟨W, hW⟩ : ∃ W, W = (w.alloc (Obj.cells #[.pointer (some ⟨g, 0, none⟩)] 109)).alloc (Obj.cells #[.int .i64 id] 3) := ⟨_, rfl⟩
  have hb : Below w.heap.size w W := by rw [hW]; exact blw
  have hz : W.heap.size = w.heap.size + 2 := by rw [hW]; simp
  have c2 : W.cell? ⟨w.heap.size, 0, none⟩ = some (.pointer (some ⟨g, 0, none⟩)) := by rw [hW]; simp [hAC]
  have c3 : W.cell? ⟨w.heap.size + 1, 0, none⟩ = some (.int .i64 id) := by rw [hW]; simp [hAC]
  have HT := Lib.hid (h.below hb)
  have HF := Lib.hid hf
  have HB := Lib.hid hb
  have hfew := hf.few
  have HI := Lib.hid (first_any 126 #[.pointer (some ⟨w.heap.size, 0, none⟩), .pointer (some ⟨w.heap.size + 1, 0, none⟩)] ps.length (fun i => decide (id ≤ (lastAt ps i : Nat))) (fun _ V => Below W.heap.size W V) W (by omega)
    (fun i j h1 h2 h3 => by
      have hp := List.getElem?_eq_getElem (show i < ps.length by omega)
      have hq := List.getElem?_eq_getElem h2
      have := hf.rising.mono h1 hp hq
      simp only [decide_eq_true_eq, lastAt, hp, hq, Option.map_some, Option.getD_some] at *
      omega) (brefl W) enter_get1
    (fun i k V hi _ hV => by
      have hp := List.getElem?_eq_getElem hi
      refine (get1_any B g fmt ps ns w.heap.size (w.heap.size + 1) i _ id V (HT.out.below hV) hp hfew ((hV.cell (p := ⟨w.heap.size, 0, none⟩) (by rw [hz]; simp)).trans c2) ((hV.cell (p := ⟨w.heap.size + 1, 0, none⟩) (by rw [hz]; simp)).trans c3)).mono ?_
      rintro e w' ⟨rfl, hb'⟩
      exact ⟨by simp only [lastAt, hp, Option.map_some, Option.getD_some], hV.trans (hb'.mono hV.size)⟩))
  obtain ⟨ap, cp, an, cn, h0, h1, _⟩ := h.is
  have c1 := cell_of_heap h0 1
  simp only [List.getElem?_toArray, List.getElem?_cons_succ, List.getElem?_cons_zero] at c1
  have H1 := Lib.hid (owns_below h1 HB.out (Nat.le_refl _))
  have hne1 : ¬ g = w.heap.size := by omega
  have hne2 : ¬ g = w.heap.size + 1 := by omega
  clear h hf hb h0 h1
  generalize hL : ps.length = L at *
  go_enter Try.func76, Try.ntmps76
  go_wp2_with fail
  rw [← hW]
  refine HI.out.mono ?_
  clear HI
  rintro e V ⟨r, k, hr, hlo, hhi, _, rfl, hV⟩
  have v2 := (hV.cell (p := ⟨w.heap.size, 0, none⟩) (by rw [hz]; simp)).trans c2
  have v3 := (hV.cell (p := ⟨w.heap.size + 1, 0, none⟩) (by rw [hz]; simp)).trans c3
  have hgW : g < W.heap.size := by omega
  have v1 := (hV.cell (p := ⟨g, 1, none⟩) hgW).trans ((HB.out.cell (p := ⟨g, 1, none⟩) hg0).trans c1)
  have hzV := hV.size
  have HBV := Lib.hid (HB.out.trans (hV.mono HB.out.size))
  have HLO := Lib.hid hlo
  have HHI := Lib.hid hhi
  have HTV := Lib.hid (HT.out.below hV)
  have HO := Lib.hid (owns_below H1.out hV (Nat.le_refl _))
  have HLL := Lib.hid hL
  have hlow : ∀ (q : PartL) (i : Nat), i < r → ps[i]? = some q → (q.last : Nat) < id := fun q i hi hq => by
    have := hlo i hi
    simp only [decide_eq_false_iff_not, lastAt, hq, Option.map_some, Option.getD_some] at this
    omega
  have HLW := Lib.hid hlow
  clear hW c1 c2 c3 hV hlo hhi HT H1 hL hlow
  by_cases hrL : r < L
  · obtain ⟨p, hp⟩ : ∃ p, ps[r]? = some p := ⟨_, List.getElem?_eq_getElem (by rw [HLL.out]; exact hrL)⟩
    obtain ⟨e0, e1, e2, e3⟩ := partsL_get ps r p hp
    obtain ⟨gp, hap⟩ : ∃ gp, ap = some ⟨gp, 0, none⟩ := by
      rcases HO.out.2 with ⟨hv, hn0⟩ | ⟨gp, cap, cur, hv, _⟩
      · omega
      · injection hv with ea _ _
        exact ⟨gp, ea⟩
    subst hap
    have k0 := (HO.out.cellAt (r * 4) (by omega)).trans e0
    have k1 := (HO.out.cellAt (r * 4 + 1) (by omega)).trans e1
    have k2 := (HO.out.cellAt (r * 4 + 2) (by omega)).trans e2
    have k3 := (HO.out.cellAt (r * 4 + 3) (by omega)).trans e3
    have hgp := cell_lt k0
    simp only at hgp
    have hd : ((r : Int) == (L : Int)) = false := by simp; omega
    have hmem : p ∈ ps := List.mem_of_getElem? hp
    have hle : id ≤ (p.last : Nat) := by
      have := HHI.out r (Nat.le_refl _) hrL
      simpa [lastAt, hp] using this
    by_cases hlt : id < (p.first : Nat)
    · have hd2 : decide (id < ((p.first : Nat) : Int)) = true := by simpa using hlt
      have HRES := Lib.hid (show ∀ q ∈ ps, ¬ ((q.first : Nat) ≤ id ∧ id ≤ (q.last : Nat)) from fun q hq hin => by
        obtain ⟨i, hi, rfl⟩ := List.getElem_of_mem hq
        have hiq := List.getElem?_eq_getElem hi
        rcases Nat.lt_trichotomy i r with hc | hc | hc
        · have := HLW.out _ i hc hiq
          omega
        · subst hc
          rw [hp] at hiq
          cases hiq
          omega
        · obtain ⟨hr', hpe⟩ := List.getElem?_eq_some_iff.1 hp
          have h1 := List.pairwise_iff_getElem.1 HF.out.rising.1 r i hr' hi hc
          have h2 := HF.out.rising.2 p hmem
          rw [hpe] at h1
          omega)
      clear e0 e1 e2 e3 hp hmem hle
      generalize p.first = f1 at *
      generalize p.last = f2 at *
      go_wp2_with fail
      refine wp_region_tree (.step 0 (.step 1 (.step 2 (.step 3 (.step 4 (.step 5 (.step 6 (.step 7 (.step 8 (.step 9 (.step 10 (.step 11 (.step 12 (.step 13 (.step 14 (.step 15 (.step 16 (.step 17 (.step 18 .nil))))))))))))))))))) (by kernel_rfl) (by kernel_rfl) (by kernel_rfl) (by kernel_rfl) (by intro _ _ d_ _ _ h_; cases d_ <;> first | exact h_ | (dsimp +zetaDelta only at h_ ⊢; exact h_)) (fun w' => ∃ p : Wld V [], w' = p.val) (wld_start _ _) ?_
      have hG_ := @wldC V
      (refine tree_quiet gtA (by rfl) (by rfl) (fun K_ hK_ => ?_); go_big_quiet_op; refine hK_ _ ?_; clear hK_ K_)
      (refine tree_quiet gtA (by rfl) (by rfl) (fun K_ hK_ => ?_); go_big_quiet_op; refine hK_ _ ?_; clear hK_ K_)
      (refine tree_quiet gtA (by rfl) (by rfl) (fun K_ hK_ => ?_); go_big_quiet_op; refine hK_ _ ?_; clear hK_ K_)
      (refine tree_quiet gtA (by rfl) (by rfl) (fun K_ hK_ => ?_); go_big_quiet_op; refine hK_ _ ?_; clear hK_ K_)
      (refine tree_quiet gtA (by rfl) (by rfl) (fun K_ hK_ => ?_); go_big_quiet_op; refine hK_ _ ?_; clear hK_ K_)
      (refine tree_quiet gtA (by rfl) (by rfl) (fun K_ hK_ => ?_); go_big_quiet_op; refine hK_ _ ?_; clear hK_ K_)
      (refine tree_quiet gtA (by rfl) (by rfl) (fun K_ hK_ => ?_); go_big_quiet_op; refine hK_ _ ?_; clear hK_ K_)
      (refine tree_quiet gtA (by rfl) (by rfl) (fun K_ hK_ => ?_); go_big_quiet_op; refine hK_ _ ?_; clear hK_ K_)
      (refine tree_quiet gtA (by rfl) (by rfl) (fun K_ hK_ => ?_); go_big_quiet_op; refine hK_ _ ?_; clear hK_ K_)
      (refine tree_quiet gtA (by rfl) (by rfl) (fun K_ hK_ => ?_); go_big_quiet_op; refine hK_ _ ?_; clear hK_ K_)
      (refine tree_quiet gtA (by rfl) (by rfl) (fun K_ hK_ => ?_); go_big_quiet_op; refine hK_ _ ?_; clear hK_ K_)
      (refine tree_quiet gtA (by rfl) (by rfl) (fun K_ hK_ => ?_); go_big_quiet_op; refine hK_ _ ?_; clear hK_ K_)
      (refine tree_quiet gtA (by rfl) (by rfl) (fun K_ hK_ => ?_); go_big_quiet_op; refine hK_ _ ?_; clear hK_ K_)
      (refine tree_quiet gtA (by rfl) (by rfl) (fun K_ hK_ => ?_); go_big_quiet_op; refine hK_ _ ?_; clear hK_ K_)
      (refine tree_quiet gtA (by rfl) (by rfl) (fun K_ hK_ => ?_); go_big_quiet_op; refine hK_ _ ?_; clear hK_ K_)
      (refine tree_quiet gtA (by rfl) (by rfl) (fun K_ hK_ => ?_); go_big_quiet_op; refine hK_ _ ?_; clear hK_ K_)
      (refine tree_quiet gtA (by rfl) (by rfl) (fun K_ hK_ => ?_); go_big_quiet_op; refine hK_ _ ?_; clear hK_ K_)
      (refine tree_quiet gtA (by rfl) (by rfl) (fun K_ hK_ => ?_); go_big_quiet_op; refine hK_ _ ?_; clear hK_ K_)
      (refine tree_quiet gtA (by rfl) (by rfl) (fun K_ hK_ => ?_); go_big_quiet_op; refine hK_ _ ?_; clear hK_ K_)
      refine tree_nil ?_
      clear hG_
      go_wp2_with fail
      refine bodyPost_ret (v := .tuple #[.int .i64 0, .bool false]) (by simp [results, Try.results76, go_sem]) rfl ?_
      exact ⟨.inr ⟨HRES.out, rfl⟩, HBV.out.trans (Below.mono (show Below V.heap.size V _ from blw) (by omega))⟩
    · have hd2 : decide (id < ((p.first : Nat) : Int)) = false := by simp; omega
      obtain ⟨d, hdd⟩ : ∃ d : Nat, id = (p.first : Nat) + (d : Nat) := ⟨(id - p.first).toNat, by omega⟩
      obtain ⟨s1, s2, s3⟩ := HF.out.ok p hmem
      have hj : p.at_ + p.step * d < ns.length := by
        rcases s1 with s | s <;> rw [s] at s2 ⊢ <;> omega
      have HOF := Lib.hid (fun V' (hb : Below V.heap.size V V') => tof_any B g fmt ps ns p d id hdd V' (HTV.out.below hb) hj s1 ⟨by omega, HF.out.many⟩ HF.out.num)
      have HRES := Lib.hid (show ∃ q ∈ ps, (q.first : Nat) ≤ id ∧ id ≤ (q.last : Nat) ∧ (.returned (.tuple #[.int .i64 (ns.getD (p.at_ + p.step * d) 0 : Nat), .bool true]) : Ending) = .returned (.tuple #[.int .i64 (ns.getD (q.at_ + q.step * (id - q.first).toNat) 0 : Nat), .bool true]) from
        ⟨p, hmem, by omega, hle, by rw [show (id - (p.first : Nat)).toNat = d by omega]⟩)
      clear e0 e1 e2 e3 hp hmem hle hdd s1 s2 s3 hj
      generalize ns.getD (p.at_ + p.step * d) 0 = x at *
      generalize p.first = f1 at *
      generalize p.last = f2 at *
      generalize p.at_ = f3 at *
      generalize p.step = f4 at *
      go_wp2_with fail
      refine wp_region_tree (.step 0 (.step 1 (.step 2 (.step 3 (.step 4 (.step 5 (.step 6 (.step 7 (.step 8 (.step 9 (.step 10 (.step 11 (.step 12 (.step 13 (.step 14 (.step 15 (.step 16 (.step 17 (.step 18 .nil))))))))))))))))))) (by kernel_rfl) (by kernel_rfl) (by kernel_rfl) (by kernel_rfl) (by intro _ _ d_ _ _ h_; cases d_ <;> first | exact h_ | (dsimp +zetaDelta only at h_ ⊢; exact h_)) (fun w' => ∃ p : Wld V [], w' = p.val) (wld_start _ _) ?_
      have hG_ := @wldC V
      (refine tree_quiet gtA (by rfl) (by rfl) (fun K_ hK_ => ?_); go_big_quiet_op; refine hK_ _ ?_; clear hK_ K_)
      (refine tree_quiet gtA (by rfl) (by rfl) (fun K_ hK_ => ?_); go_big_quiet_op; refine hK_ _ ?_; clear hK_ K_)
      (refine tree_quiet gtA (by rfl) (by rfl) (fun K_ hK_ => ?_); go_big_quiet_op; refine hK_ _ ?_; clear hK_ K_)
      (refine tree_quiet gtA (by rfl) (by rfl) (fun K_ hK_ => ?_); go_big_quiet_op; refine hK_ _ ?_; clear hK_ K_)
      (refine tree_quiet gtA (by rfl) (by rfl) (fun K_ hK_ => ?_); go_big_quiet_op; refine hK_ _ ?_; clear hK_ K_)
      (refine tree_quiet gtA (by rfl) (by rfl) (fun K_ hK_ => ?_); go_big_quiet_op; refine hK_ _ ?_; clear hK_ K_)
      (refine tree_quiet gtA (by rfl) (by rfl) (fun K_ hK_ => ?_); go_big_quiet_op; refine hK_ _ ?_; clear hK_ K_)
      (refine tree_quiet gtA (by rfl) (by rfl) (fun K_ hK_ => ?_); go_big_quiet_op; refine hK_ _ ?_; clear hK_ K_)
      (refine tree_quiet gtA (by rfl) (by rfl) (fun K_ hK_ => ?_); go_big_quiet_op; refine hK_ _ ?_; clear hK_ K_)
      (refine tree_quiet gtA (by rfl) (by rfl) (fun K_ hK_ => ?_); go_big_quiet_op; refine hK_ _ ?_; clear hK_ K_)
      (refine tree_quiet gtA (by rfl) (by rfl) (fun K_ hK_ => ?_); go_big_quiet_op; refine hK_ _ ?_; clear hK_ K_)
      (refine tree_quiet gtA (by rfl) (by rfl) (fun K_ hK_ => ?_); go_big_quiet_op; refine hK_ _ ?_; clear hK_ K_)
      (refine tree_quiet gtA (by rfl) (by rfl) (fun K_ hK_ => ?_); go_big_quiet_op; refine hK_ _ ?_; clear hK_ K_)
      (refine tree_quiet gtA (by rfl) (by rfl) (fun K_ hK_ => ?_); go_big_quiet_op; refine hK_ _ ?_; clear hK_ K_)
      (refine tree_quiet gtA (by rfl) (by rfl) (fun K_ hK_ => ?_); go_big_quiet_op; refine hK_ _ ?_; clear hK_ K_)
      (refine tree_quiet gtA (by rfl) (by rfl) (fun K_ hK_ => ?_); go_big_quiet_op; refine hK_ _ ?_; clear hK_ K_)
      (refine tree_quiet gtA (by rfl) (by rfl) (fun K_ hK_ => ?_); go_big_quiet_op; refine hK_ _ ?_; clear hK_ K_)
      (refine tree_quiet gtA (by rfl) (by rfl) (fun K_ hK_ => ?_); go_big_quiet_op; refine hK_ _ ?_; clear hK_ K_)
      (refine tree_quiet gtA (by rfl) (by rfl) (fun K_ hK_ => ?_); go_big_quiet_op; refine hK_ _ ?_; clear hK_ K_)
      refine tree_nil ?_
      clear hG_
      go_wp2_with fail
      obtain ⟨V2, hV2⟩ : ∃ V2, V2 = V.drew := ⟨_, rfl⟩
      have hb2 : Below V.heap.size V V2 := by rw [hV2]; exact bdrew1 (brefl V)
      have hz2 := hb2.size
      have u1 := (hb2.cell (p := ⟨g, 1, none⟩) (by show g < V.heap.size; omega)).trans v1
      have u2 := (hb2.cell (p := ⟨w.heap.size, 0, none⟩) (by show w.heap.size < V.heap.size; omega)).trans v2
      have u3 := (hb2.cell (p := ⟨w.heap.size + 1, 0, none⟩) (by show w.heap.size + 1 < V.heap.size; omega)).trans v3
      have j0 := (hb2.cell (p := ⟨gp, r * 4, none⟩) hgp).trans k0
      have j1 := (hb2.cell (p := ⟨gp, r * 4 + 1, none⟩) hgp).trans k1
      have j2 := (hb2.cell (p := ⟨gp, r * 4 + 2, none⟩) hgp).trans k2
      have j3 := (hb2.cell (p := ⟨gp, r * 4 + 3, none⟩) hgp).trans k3
      have HB2 := Lib.hid hb2
      rw [← hV2]
      clear hV2 hb2 v1 v2 v3 k0 k1 k2 k3
      refine wp_region_tree (.step 0 (.step 1 (.step 2 (.step 3 (.step 4 (.step 5 (.step 6 (.step 7 (.step 8 (.step 9 (.step 10 (.step 11 .nil)))))))))))) (by kernel_rfl) (by kernel_rfl) (by kernel_rfl) (by kernel_rfl) (by intro _ _ d_ _ _ h_; cases d_ <;> first | exact h_ | (dsimp +zetaDelta only at h_ ⊢; exact h_)) (fun w' => ∃ p : Wld V2 [], w' = p.val) (wld_start _ _) ?_
      have hG_ := @wldC V2
      (refine tree_quiet gtA (by rfl) (by rfl) (fun K_ hK_ => ?_); go_big_quiet_op; refine hK_ _ ?_; clear hK_ K_)
      (refine tree_quiet gtA (by rfl) (by rfl) (fun K_ hK_ => ?_); go_big_quiet_op; refine hK_ _ ?_; clear hK_ K_)
      (refine tree_quiet gtA (by rfl) (by rfl) (fun K_ hK_ => ?_); go_big_quiet_op; refine hK_ _ ?_; clear hK_ K_)
      (refine tree_quiet gtA (by rfl) (by rfl) (fun K_ hK_ => ?_); go_big_quiet_op; refine hK_ _ ?_; clear hK_ K_)
      (refine tree_quiet gtA (by rfl) (by rfl) (fun K_ hK_ => ?_); go_big_quiet_op; refine hK_ _ ?_; clear hK_ K_)
      (refine tree_quiet gtA (by rfl) (by rfl) (fun K_ hK_ => ?_); go_big_quiet_op; refine hK_ _ ?_; clear hK_ K_)
      (refine tree_quiet gtA (by rfl) (by rfl) (fun K_ hK_ => ?_); go_big_quiet_op; refine hK_ _ ?_; clear hK_ K_)
      (refine tree_quiet gtA (by rfl) (by rfl) (fun K_ hK_ => ?_); go_big_quiet_op; refine hK_ _ ?_; clear hK_ K_)
      (refine tree_quiet gtA (by rfl) (by rfl) (fun K_ hK_ => ?_); go_big_quiet_op; refine hK_ _ ?_; clear hK_ K_)
      (refine tree_run gtA (by rfl) (by rfl) (fun K_ hK_ => ?_); have HK_ := Lib.hid hK_; clear hK_; go_wp2_with ((go_at_call 127; refine (HOF.out _ (HB2.out.trans (Below.mono (show Below V2.heap.size V2 _ from blw) hz2))).mono ?_; rintro e va ⟨rfl, hba⟩)); refine HK_.out _ _ (wld_ofA) ?_; clear HK_)
      (refine tree_quiet gtA (by rfl) (by rfl) (fun K_ hK_ => ?_); go_big_quiet_op; refine hK_ _ ?_; clear hK_ K_)
      (refine tree_quiet gtA (by rfl) (by rfl) (fun K_ hK_ => ?_); go_big_quiet_op; refine hK_ _ ?_; clear hK_ K_)
      refine tree_nil ?_
      clear hG_
      go_wp2_with fail
      refine bodyPost_ret (v := .tuple #[.int .i64 (x : Nat), .bool true]) (by simp [results, Try.results76, go_sem]) rfl ?_
      exact ⟨.inl HRES.out, HBV.out.trans ((HB2.out.trans (Below.mono (show Below V2.heap.size V2 _ from blw) hz2)).mono (by omega))⟩
  · obtain rfl : r = L := by omega
    have HRES := Lib.hid (show ∀ q ∈ ps, ¬ ((q.first : Nat) ≤ id ∧ id ≤ (q.last : Nat)) from fun q hq hin => by
      obtain ⟨i, hi, rfl⟩ := List.getElem_of_mem hq
      have := HLW.out _ i (by rw [← HLL.out]; exact hi) (List.getElem?_eq_getElem hi)
      omega)
    go_wp2_with fail
    refine wp_region_tree (.step 0 (.step 1 (.step 2 (.step 3 (.step 4 (.step 5 (.step 6 (.step 7 (.step 8 (.step 9 (.step 10 (.step 11 (.step 12 (.step 13 (.step 14 (.step 15 (.step 16 (.step 17 (.step 18 .nil))))))))))))))))))) (by kernel_rfl) (by kernel_rfl) (by kernel_rfl) (by kernel_rfl) (by intro _ _ d_ _ _ h_; cases d_ <;> first | exact h_ | (dsimp +zetaDelta only at h_ ⊢; exact h_)) (fun w' => ∃ p : Wld V [], w' = p.val) (wld_start _ _) ?_
    have hG_ := @wldC V
    (refine tree_quiet gtA (by rfl) (by rfl) (fun K_ hK_ => ?_); go_big_quiet_op; refine hK_ _ ?_; clear hK_ K_)
    (refine tree_quiet gtA (by rfl) (by rfl) (fun K_ hK_ => ?_); go_big_quiet_op; refine hK_ _ ?_; clear hK_ K_)
    (refine tree_quiet gtA (by rfl) (by rfl) (fun K_ hK_ => ?_); go_big_quiet_op; refine hK_ _ ?_; clear hK_ K_)
    (refine tree_quiet gtA (by rfl) (by rfl) (fun K_ hK_ => ?_); go_big_quiet_op; refine hK_ _ ?_; clear hK_ K_)
    (refine tree_quiet gtA (by rfl) (by rfl) (fun K_ hK_ => ?_); go_big_quiet_op; refine hK_ _ ?_; clear hK_ K_)
    (refine tree_quiet gtA (by rfl) (by rfl) (fun K_ hK_ => ?_); go_big_quiet_op; refine hK_ _ ?_; clear hK_ K_)
    (refine tree_quiet gtA (by rfl) (by rfl) (fun K_ hK_ => ?_); go_big_quiet_op; refine hK_ _ ?_; clear hK_ K_)
    (refine tree_quiet gtA (by rfl) (by rfl) (fun K_ hK_ => ?_); go_big_quiet_op; refine hK_ _ ?_; clear hK_ K_)
    refine tree_skip gtA (by rfl) ?_; dsimp only [Act.put]; simp only [List.setIfInBounds_toArray, List.set_cons_succ, List.set_cons_zero]
    refine tree_skip gtA (by rfl) ?_; dsimp only [Act.put]; simp only [List.setIfInBounds_toArray, List.set_cons_succ, List.set_cons_zero]
    refine tree_skip gtA (by rfl) ?_; dsimp only [Act.put]; simp only [List.setIfInBounds_toArray, List.set_cons_succ, List.set_cons_zero]
    refine tree_skip gtA (by rfl) ?_; dsimp only [Act.put]; simp only [List.setIfInBounds_toArray, List.set_cons_succ, List.set_cons_zero]
    refine tree_skip gtA (by rfl) ?_; dsimp only [Act.put]; simp only [List.setIfInBounds_toArray, List.set_cons_succ, List.set_cons_zero]
    refine tree_skip gtA (by rfl) ?_; dsimp only [Act.put]; simp only [List.setIfInBounds_toArray, List.set_cons_succ, List.set_cons_zero]
    refine tree_skip gtA (by rfl) ?_; dsimp only [Act.put]; simp only [List.setIfInBounds_toArray, List.set_cons_succ, List.set_cons_zero]
    refine tree_skip gtA (by rfl) ?_; dsimp only [Act.put]; simp only [List.setIfInBounds_toArray, List.set_cons_succ, List.set_cons_zero]
    refine tree_skip gtA (by rfl) ?_; dsimp only [Act.put]; simp only [List.setIfInBounds_toArray, List.set_cons_succ, List.set_cons_zero]
    refine tree_skip gtA (by rfl) ?_; dsimp only [Act.put]; simp only [List.setIfInBounds_toArray, List.set_cons_succ, List.set_cons_zero]
    (refine tree_quiet gtA (by rfl) (by rfl) (fun K_ hK_ => ?_); go_big_quiet_op; refine hK_ _ ?_; clear hK_ K_)
    refine tree_nil ?_
    clear hG_
    go_wp2_with fail
    refine bodyPost_ret (v := .tuple #[.int .i64 0, .bool false]) (by simp [results, Try.results76, go_sem]) rfl ?_
    exact ⟨.inr ⟨HRES.out, rfl⟩, HBV.out.trans (Below.mono (show Below V.heap.size V _ from blw) (by omega))⟩
end Go.Proofs.Ytaladlaffglkeaa
end
section

/- What a lookup is, by its bytes: parts, and the table that they make. Conditions: as the lemmas say. -/
namespace Go.Proofs.Ytaladlaffglkeaa
open Go.RowKit Go.Lib

/-- A part as the bytes tell it: its first and last glyph, where its numbers stand, how many bytes each has, whether each glyph has its own. -/
structure RP where
  first : Nat
  last : Nat
  at_ : Nat
  size : Nat
  own : Bool
def numsR (bs : List UInt8) (r : RP) : List Nat := if r.own = true then numsA (bs.drop r.at_) r.size (r.last - r.first + 1) else [num bs r.at_ r.size]
def stepR (bs : List UInt8) (s : List PartL × List Nat) (r : RP) : List PartL × List Nat :=
  (s.1 ++ [⟨r.first, r.last, s.2.length, if r.own = true then 1 else 0⟩], s.2 ++ numsR bs r)
def tabR (bs : List UInt8) (rs : List RP) : List PartL × List Nat := rs.foldl (stepR bs) ([], [])
theorem tabR_snoc (bs : List UInt8) (rs : List RP) (r : RP) : tabR bs (rs ++ [r]) = stepR bs (tabR bs rs) r := by simp [tabR, List.foldl_append]
def fitR (bs : List UInt8) (ps : List PartL) (r : RP) : Prop := CanAdd ps (r.first : Nat) (r.last : Nat) ∧ (r.own = true → r.at_ + (r.last - r.first + 1) * r.size ≤ bs.length)
def okR (bs : List UInt8) (rs : List RP) : Prop := ∀ i r, rs[i]? = some r → fitR bs (tabR bs (rs.take i)).1 r
def rows2 (bs : List UInt8) (S M : Nat) : List RP := (List.range M).map fun i => ⟨num bs (12 + i * skS bs 2 + 2) 2, num bs (12 + i * skS bs 2) 2, 12 + i * skS bs 2 + 4, S, false⟩
def rows4 (bs : List UInt8) (S M : Nat) : List RP := (List.range M).map fun i => ⟨num bs (12 + i * skS bs 2 + 2) 2, num bs (12 + i * skS bs 2) 2, num bs (12 + i * skS bs 2 + 4) 2, S, true⟩
def rows6 (bs : List UInt8) (S M : Nat) : List RP := (List.range M).map fun i => ⟨num bs (12 + i * skS bs 2) 2, num bs (12 + i * skS bs 2) 2, 12 + i * skS bs 2 + 2, S, false⟩
def rowsT (f m at_ S : Nat) : List RP := if m = 0 then [] else [⟨f, f + m - 1, at_, S, true⟩]
inductive LkRows (bs : List UInt8) (glyphs size : Nat) : List RP → Prop
  | all (h : 2 ≤ bs.length) (h0 : num bs 0 2 = 0) : LkRows bs glyphs size [⟨0, glyphs - 1, 2, size, true⟩]
  | two (h : 2 ≤ bs.length) (h0 : num bs 0 2 = 2) (h1 : skOk bs 2 (4 + size)) : LkRows bs glyphs size (rows2 bs size (skM bs 2 2))
  | four (h : 2 ≤ bs.length) (h0 : num bs 0 2 = 4) (h1 : skOk bs 2 6) : LkRows bs glyphs size (rows4 bs size (skM bs 2 2))
  | six (h : 2 ≤ bs.length) (h0 : num bs 0 2 = 6) (h1 : skOk bs 2 (2 + size)) : LkRows bs glyphs size (rows6 bs size (skM bs 2 1))
  | eight (h : 6 ≤ bs.length) (h0 : num bs 0 2 = 8) (h1 : num bs 2 2 + num bs 4 2 ≤ 65536) : LkRows bs glyphs size (rowsT (num bs 2 2) (num bs 4 2) 6 size)
  | ten (h : 8 ≤ bs.length) (h0 : num bs 0 2 = 10) (hu : num bs 2 2 = 1 ∨ num bs 2 2 = 2 ∨ num bs 2 2 = 4) (h1 : num bs 4 2 + num bs 6 2 ≤ 65536) : LkRows bs glyphs size (rowsT (num bs 4 2) (num bs 6 2) 8 (num bs 2 2))
structure LkOk (bs : List UInt8) (glyphs size : Nat) (rs : List RP) : Prop where
  rows : LkRows bs glyphs size rs
  ok : okR bs rs
theorem LkRows.det {bs : List UInt8} {glyphs size : Nat} {r1 r2 : List RP} (h1 : LkRows bs glyphs size r1) (h2 : LkRows bs glyphs size r2) : r1 = r2 := by
  cases h1 <;> cases h2 <;> first | rfl | omega
theorem LkOk.det {bs : List UInt8} {glyphs size : Nat} {r1 r2 : List RP} (h1 : LkOk bs glyphs size r1) (h2 : LkOk bs glyphs size r2) : r1 = r2 := h1.rows.det h2.rows
theorem okR_snoc {bs : List UInt8} {rs : List RP} {r : RP} (h : okR bs rs) (hf : fitR bs (tabR bs rs).1 r) : okR bs (rs ++ [r]) := fun i x hi => by
  rcases Nat.lt_trichotomy i rs.length with hl | hl | hl
  · rw [List.getElem?_append_left hl] at hi
    rw [List.take_append_of_le_length (by omega)]
    exact h i x hi
  · subst hl
    rw [List.getElem?_append_right (Nat.le_refl _), Nat.sub_self] at hi
    simp at hi
    subst hi
    rw [List.take_left']
    · exact hf
    · rfl
  · rw [List.getElem?_eq_none (by simp; omega)] at hi
    cases hi
theorem okR_take_succ {bs : List UInt8} {rs : List RP} {r : RP} {k : Nat} (h : okR bs (rs.take k)) (hr : rs[k]? = some r) (hf : fitR bs (tabR bs (rs.take k)).1 r) : okR bs (rs.take (k + 1)) := by
  rw [List.take_add_one, hr]
  exact okR_snoc h hf
theorem tabR_take_succ {bs : List UInt8} {rs : List RP} {r : RP} {k : Nat} (hr : rs[k]? = some r) : tabR bs (rs.take (k + 1)) = stepR bs (tabR bs (rs.take k)) r := by
  rw [List.take_add_one, hr]
  exact tabR_snoc _ _ _
theorem tabR_len (bs : List UInt8) (rs : List RP) : (tabR bs rs).1.length = rs.length := by
  suffices h : ∀ (rs : List RP) (s : List PartL × List Nat), (rs.foldl (stepR bs) s).1.length = s.1.length + rs.length by simpa [tabR] using h rs ([], [])
  intro rs
  induction rs with
  | nil => intro s; rfl
  | cons r rs ih => intro s; simp only [List.foldl_cons, ih, stepR, List.length_append, List.length_cons, List.length_nil]; omega
/-- What a table's parts and numbers keep, whatever is put behind them. -/
structure InvR (s : List PartL × List Nat) : Prop where
  rising : Rising s.1
  ok : ∀ p ∈ s.1, (p.step = 0 ∨ p.step = 1) ∧ p.at_ + p.step * (p.last - p.first) < s.2.length ∧ p.last ≤ 70000
  num : ∀ x ∈ s.2, x ≤ 4294967295
  few : ∀ p, s.1[s.1.length - 1]? = some p → s.2.length ≤ p.last + 1
  none : s.1 = [] → s.2 = []
theorem num_le4 (bs : List UInt8) (k s : Nat) (hs : s = 1 ∨ s = 2 ∨ s = 4) : num bs k s ≤ 4294967295 := by
  rcases hs with rfl | rfl | rfl
  · have := num1_le bs k; omega
  · have := num2_lt bs k; omega
  · exact num4_lt bs k
theorem InvR.step {bs : List UInt8} {s : List PartL × List Nat} {r : RP} (h : InvR s) (hf : fitR bs s.1 r) (hl : r.last ≤ 70000) (hs : r.size = 1 ∨ r.size = 2 ∨ r.size = 4) : InvR (stepR bs s r) := by
  obtain ⟨⟨h1, h2⟩, h3⟩ := hf
  have hnl : (numsR bs r).length ≤ r.last - r.first + 1 ∧ 1 ≤ (numsR bs r).length := by
    unfold numsR
    split
    · simp [numsA]
    · simp
  have hlast : s.2.length ≤ r.first := by
    by_cases he : s.1 = []
    · rw [h.none he]; simp
    · obtain ⟨p, hp⟩ : ∃ p, s.1[s.1.length - 1]? = some p := ⟨_, List.getElem?_eq_getElem (by have := List.length_pos_iff.2 he; omega)⟩
      have := h.few p hp
      have := h2 p hp
      omega
  refine ⟨⟨?_, ?_⟩, ?_, ?_, ?_, ?_⟩
  · refine List.pairwise_append.2 ⟨h.rising.1, List.pairwise_singleton _ _, fun p hp q hq => ?_⟩
    simp at hq
    subst hq
    obtain ⟨i, hi, rfl⟩ := List.getElem_of_mem hp
    have hx := List.getElem?_eq_getElem (show s.1.length - 1 < s.1.length by omega)
    have hm := h.rising.mono (show i ≤ s.1.length - 1 by omega) (List.getElem?_eq_getElem hi) hx
    have := h2 _ hx
    show s.1[i].last < r.first
    omega
  · intro p hp
    rcases List.mem_append.1 hp with hp | hp
    · exact h.rising.2 p hp
    · simp at hp
      subst hp
      show r.first ≤ r.last
      omega
  · intro p hp
    show _ ∧ _ < (s.2 ++ numsR bs r).length ∧ _
    rw [List.length_append]
    rcases List.mem_append.1 hp with hp | hp
    · obtain ⟨a1, a2, a3⟩ := h.ok p hp
      exact ⟨a1, by omega, a3⟩
    · simp at hp
      subst hp
      refine ⟨by show (if r.own = true then 1 else 0) = 0 ∨ (if r.own = true then 1 else 0) = 1; split <;> simp, ?_, hl⟩
      show s.2.length + (if r.own = true then 1 else 0) * (r.last - r.first) < _
      unfold numsR
      split
      · simp [numsA]
      · simp
  · intro x hx
    rcases List.mem_append.1 hx with hx | hx
    · exact h.num x hx
    · unfold numsR at hx
      split at hx
      · obtain ⟨i, _, rfl⟩ := List.mem_map.1 hx
        exact num_le4 _ _ _ hs
      · simp at hx
        subst hx
        exact num_le4 _ _ _ hs
  · intro p hp
    show (s.2 ++ numsR bs r).length ≤ _
    simp only [stepR, List.length_append, List.length_cons, List.length_nil] at hp
    rw [List.getElem?_append_right (by omega)] at hp
    simp at hp
    subst hp
    rw [List.length_append]
    show _ ≤ r.last + 1
    omega
  · intro he
    simp [stepR] at he
theorem InvR.nil : InvR ([], []) := ⟨⟨List.Pairwise.nil, fun p hp => by cases hp⟩, fun p hp => (by cases hp), fun x hx => (by cases hx), fun p hp => (by simp at hp), fun _ => rfl⟩
theorem invR_take (bs : List UInt8) (rs : List RP) (h : okR bs rs) (hr : ∀ r ∈ rs, r.last ≤ 70000 ∧ (r.size = 1 ∨ r.size = 2 ∨ r.size = 4)) : ∀ k, k ≤ rs.length → InvR (tabR bs (rs.take k))
  | 0, _ => by rw [List.take_zero]; exact InvR.nil
  | k + 1, hk => by
    have hx := List.getElem?_eq_getElem (show k < rs.length by omega)
    rw [tabR_take_succ hx]
    obtain ⟨r1, r2⟩ := hr _ (List.getElem_mem (show k < rs.length by omega))
    exact (invR_take bs rs h hr k (by omega)).step (h k _ hx) r1 r2
theorem invR (bs : List UInt8) (rs : List RP) (h : okR bs rs) (hr : ∀ r ∈ rs, r.last ≤ 70000 ∧ (r.size = 1 ∨ r.size = 2 ∨ r.size = 4)) : InvR (tabR bs rs) := by
  have := invR_take bs rs h hr rs.length (Nat.le_refl _)
  rwa [List.take_length] at this
theorem InvR.len {s : List PartL × List Nat} (h : InvR s) : s.2.length ≤ 70001 := by
  by_cases he : s.1 = []
  · rw [h.none he]; simp
  · have hx := List.getElem?_eq_getElem (show s.1.length - 1 < s.1.length by have := List.length_pos_iff.2 he; omega)
    have := h.few _ hx
    have := (h.ok _ (List.getElem_mem (show s.1.length - 1 < s.1.length by have := List.length_pos_iff.2 he; omega))).2.2
    omega
theorem InvR.fit {s : List PartL × List Nat} (h : InvR s) (hl : s.1.length ≤ 1000000) : FitL s.1 s.2 := ⟨h.rising, h.ok, h.num, hl, by have := h.len; omega⟩
theorem LkRows.each {bs : List UInt8} {glyphs size : Nat} {rs : List RP} (h : LkRows bs glyphs size rs) (hg : glyphs ≤ 65535) (hs : size = 2 ∨ size = 4) : rs.length ≤ 65535 ∧ ∀ r ∈ rs, r.last ≤ 70000 ∧ (r.size = 1 ∨ r.size = 2 ∨ r.size = 4) := by
  have hM : ∀ k, skM bs 2 k ≤ 65535 := fun k => by unfold skM skN; have := num2_lt bs (2 + 2); split <;> omega
  have hsz : size = 1 ∨ size = 2 ∨ size = 4 := by omega
  cases h with
  | all => exact ⟨by simp, fun r hr => by simp at hr; subst hr; exact ⟨by show glyphs - 1 ≤ 70000; omega, hsz⟩⟩
  | two => exact ⟨by simpa [rows2] using hM 2, fun r hr => by obtain ⟨i, _, rfl⟩ := List.mem_map.1 hr; exact ⟨Nat.le_trans (num2_lt _ _) (by omega), hsz⟩⟩
  | four => exact ⟨by simpa [rows4] using hM 2, fun r hr => by obtain ⟨i, _, rfl⟩ := List.mem_map.1 hr; exact ⟨Nat.le_trans (num2_lt _ _) (by omega), hsz⟩⟩
  | six => exact ⟨by simpa [rows6] using hM 1, fun r hr => by obtain ⟨i, _, rfl⟩ := List.mem_map.1 hr; exact ⟨Nat.le_trans (num2_lt _ _) (by omega), hsz⟩⟩
  | eight h h0 h1 =>
    unfold rowsT
    split
    · exact ⟨by simp, fun r hr => by cases hr⟩
    · exact ⟨by simp, fun r hr => by simp at hr; subst hr; exact ⟨by show num bs 2 2 + num bs 4 2 - 1 ≤ 70000; omega, hsz⟩⟩
  | ten h h0 hu h1 =>
    unfold rowsT
    split
    · exact ⟨by simp, fun r hr => by cases hr⟩
    · exact ⟨by simp, fun r hr => by simp at hr; subst hr; exact ⟨by show num bs 4 2 + num bs 6 2 - 1 ≤ 70000; omega, hu⟩⟩
theorem LkOk.fit {bs : List UInt8} {glyphs size : Nat} {rs : List RP} (h : LkOk bs glyphs size rs) (hg : glyphs ≤ 65535) (hs : size = 2 ∨ size = 4) : FitL (tabR bs rs).1 (tabR bs rs).2 := by
  obtain ⟨h1, h2⟩ := h.rows.each hg hs
  exact (invR bs rs h.ok h2).fit (by rw [tabR_len]; omega)
end Go.Proofs.Ytaladlaffglkeaa
end
section

/- lookup.Take of the forms 8 and 10, of one that has too few bytes, and of others. Conditions: as many bytes as the slice says; a font's glyphs, numbers of two or four bytes. -/
namespace Go.Proofs.Ytaladlaffglkeaa
open Go.RowKit Go.Lib

def TakeIs (bs : List UInt8) (glyphs size : Nat) (w : World) (e : Ending) (w' : World) : Prop :=
  ((∃ rs g, LkOk bs glyphs size rs ∧ e = .returned (.pointer (some ⟨g, 0, none⟩)) ∧ TabIs w.heap.size g (num bs 0 2) (tabR bs rs).1 (tabR bs rs).2 w') ∨ ((∀ rs, ¬ LkOk bs glyphs size rs) ∧ e = .panicked thrown)) ∧ Below w.heap.size w w'
theorem has_lt {w : World} {a : Option Addr} {bs : List UInt8} (h : Has w a (bytesV bs)) (hl : 0 < bs.length) : ∀ p, a = some p → p.block < w.heap.size := by
  intro p hp
  obtain ⟨q, hq, hc⟩ := h 0 _ (bytesV_get bs 0 hl)
  rw [hp] at hq
  cases hq
  have := cell_lt hc
  rwa [add_block] at this
theorem u16_y (a : Option Addr) (n c k : Nat) (z y : Int) (hz : z = (k : Nat)) (bs : List UInt8) (hy : ((num bs k 2 : Nat) : Int) = y) (w : World) (h : Has w a (bytesV bs)) (hl : bs.length = n) (hk : k + 2 ≤ n) (hn : n ≤ c) (hc : c ≤ maxLen) :
    Calls Try.prog 95 #[.agg #[.slice a n c], .int .i64 z] w fun e w' => e = .returned (.int .i64 y) ∧ Below w.heap.size w w' := by
  subst hy; exact u16_z a n c k z hz bs w h hl hk hn hc
theorem tab_new {B : Nat} (w : World) (fmt : Nat) (hB : B ≤ w.heap.size) (y : Int) (hy : ((fmt : Nat) : Int) = y) : TabIs B w.heap.size fmt [] [] (w.alloc (.cells #[.int .i64 y, .slice none 0 0, .slice none 0 0] 216)) := by
  subst hy
  exact ⟨none, 0, none, 0, by rw [heap_push, if_pos rfl]; rfl, ⟨rfl, .inl ⟨rfl, rfl⟩⟩, ⟨rfl, .inl ⟨rfl, rfl⟩⟩⟩
theorem tab_rowsT (bs : List UInt8) (f m at_ S : Nat) : (tabR bs (rowsT f m at_ S)).1 = trimPs f m ∧ (tabR bs (rowsT f m at_ S)).2 = numsA (bs.drop at_) S m := by
  unfold rowsT trimPs
  by_cases h : m = 0
  · subst h; simp [tabR, numsA]
  · simp only [if_neg h, tabR, List.foldl_cons, List.foldl_nil, stepR, numsR, if_pos, List.nil_append, List.length_nil]
    exact ⟨by simp, by rw [show f + m - 1 - f + 1 = m by omega]⟩
theorem ok_rowsT (bs : List UInt8) (f m at_ S : Nat) (ha : at_ ≤ bs.length) : okR bs (rowsT f m at_ S) ↔ m * S ≤ bs.length - at_ := by
  unfold rowsT
  by_cases h : m = 0
  · subst h; simp [okR]
  · rw [if_neg h]
    constructor
    · intro hx
      have := (hx 0 _ rfl).2 rfl
      simp only at this
      rw [show f + m - 1 - f + 1 = m by omega] at this
      omega
    · intro hx i r hr
      match i, hr with
      | 0, hr =>
        simp at hr
        subst hr
        refine ⟨(canAdd_nil _ _).2 (by show ((f : Nat) : Int) ≤ ((f + m - 1 : Nat) : Int); omega), fun _ => ?_⟩
        show at_ + (f + m - 1 - f + 1) * S ≤ bs.length
        rw [show f + m - 1 - f + 1 = m by omega]
        omega
      | i + 1, hr => simp at hr
theorem trim_at (bs : List UInt8) (k S : Nat) (hk : k ≤ bs.length) : TrimOk (bs.drop k) S ↔ k + 4 ≤ bs.length ∧ num bs k 2 + num bs (k + 2) 2 ≤ 65536 ∧ okR bs (rowsT (num bs k 2) (num bs (k + 2) 2) (k + 4) S) := by
  unfold TrimOk
  rw [num_drop, num_drop, List.length_drop, Nat.add_zero]
  constructor
  · rintro ⟨h1, h2, h3⟩
    exact ⟨by omega, h2, (ok_rowsT _ _ _ _ _ (by omega)).2 (by omega)⟩
  · rintro ⟨h1, h2, h3⟩
    have := (ok_rowsT _ _ _ _ _ (by omega)).1 h3
    exact ⟨by omega, h2, by omega⟩
set_option maxRecDepth 100000 in
set_option maxHeartbeats 3200000 in
theorem take8 (a : Option Addr) (n c : Nat) (bs : List UInt8) (glyphs size : Nat) (zg zs : Int) (hzg : zg = (glyphs : Nat)) (hzs : zs = (size : Nat)) (w : World) (hh : Has w a (bytesV bs)) (hbl : bs.length = n) (hnc : n ≤ c) (hc : c ≤ maxLen) (hS : size = 2 ∨ size = 4) (h0 : num bs 0 2 = 8) (h2 : 2 ≤ n) :
    Calls Try.prog 96 #[.agg #[.slice a n c], .int .i64 zg, .int .i64 zs] w (TakeIs bs glyphs size w) := by
  have hAC := allocC
  have hAF := allocF
  subst hzg hzs
  have hcm := hc
  unfold maxLen at hcm
  have HU := Lib.hid (fun W hw => u16_y a n c 0 0 8 rfl bs (by rw [h0]; rfl) W hw hbl h2 hnc hc)
  have HRE := Lib.hid (fun W => rest_z a n c 2 2 rfl W h2 hnc hc)
  have HH := Lib.hid hh
  have HH0 := Lib.hid h0
  have HTA := Lib.hid (fun (W : World) (g : Nat) (ht : TabIs w.heap.size g 8 [] [] W) (hb : Below w.heap.size w W) (hg : w.heap.size ≤ g) => trim_any w.heap.size g 8 size (size : Int) rfl (adv a c 2) (n - 2) (c - 2) (bs.drop 2) W ht hg (by omega) (by have := ((hh.below hb).adv c 2 (by rw [bytesV_length, hbl]; exact hnc)); rw [bytesV_drop] at this; exact this) (by rw [List.length_drop, hbl]) (by omega) (by unfold maxLen; omega) (advB (has_lt hh (by omega))))
  clear hh
  go_enter Try.func96, Try.ntmps96
  go_wp2_with (first | (go_at_call 95; (with_reducible refine (HU.out _ (HH.out.below (by exact blw))).mono ?_); rintro e w1 ⟨rfl, hb1⟩; have h1c := bc hb1; have h1f := bf hb1; have h1z := hb1.size; try simp only [World.size_alloc, World.size_drew] at h1z))
  have hT := tab_new (B := w.heap.size) w1 8 (by omega) 8 rfl
  have hbW : Below w.heap.size w (w1.alloc (.cells #[.int .i64 8, .slice none 0 0, .slice none 0 0] 216)) := blw
  have hg : w.heap.size ≤ w1.heap.size := by omega
  refine (HRE.out _).mono ?_
  rintro e w2 ⟨rfl, hb2⟩
  have HT2 := Lib.hid (HTA.out _ _ (hT.below hb2) (bthen hbW hb2) hg)
  have HB2 := Lib.hid (bthen hbW hb2)
  clear hT hbW hb2 h1c h1f hb1
  generalize w1.heap.size = g at *
  go_wp2_with fail
  refine HT2.out.mono ?_
  rintro e w3 ⟨(⟨hok, rfl, ht3⟩ | ⟨hno, rfl⟩), hk3⟩
  · rw [trim_at bs 2 size (by omega)] at hok
    obtain ⟨k1, k2, k3⟩ := hok
    have HOK := Lib.hid (show LkOk bs glyphs size (rowsT (num bs 2 2) (num bs 4 2) 6 size) from ⟨.eight k1 h0 k2, k3⟩)
    rw [num_drop, num_drop, List.drop_drop] at ht3
    have HT3 := Lib.hid ht3
    have HB3 := Lib.hid (HB2.out.trans hk3.below)
    clear hk3 ht3
    go_wp2_with fail
    go_ret
    obtain ⟨e1, e2⟩ := tab_rowsT bs (num bs 2 2) (num bs 4 2) 6 size
    exact ⟨.inl ⟨_, g, HOK.out, rfl, by rw [e1, e2, HH0.out]; exact HT3.out⟩, HB3.out⟩
  · rw [trim_at bs 2 size (by omega)] at hno
    refine ⟨rfl, .inr ⟨fun rs hrs => ?_, rfl⟩, HB2.out.trans hk3.below⟩
    obtain ⟨hr, hk⟩ := hrs
    cases hr with
    | eight k1 _ k2 => exact hno ⟨k1, k2, hk⟩
    | _ => omega
end Go.Proofs.Ytaladlaffglkeaa
end
