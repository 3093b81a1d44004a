
/- The contract of (*Table).Get. Conditions: a table in memory, its parts rising, its numbers there. -/
import Derived.Test.YthjnpfhcjacibaaLGet
namespace Go.Proofs.Ythjnpfhcjacibaa
open Go.RowKit Go.Lib

theorem enter_get1 (args : Array Value) (w : World) : (callFunc 24 args).run Try.prog w = .ok (.enter 24 args) w := by kernel_rfl
/-- A table's parts and numbers fit. -/
structure FitL (ps : List PartL) (ns : List Nat) : Prop where
  rising : Rising ps
  ok : ∀ p ∈ ps, (p.step = 0 ∨ p.step = 1) ∧ p.at_ + p.step * (p.last - p.first) < ns.length ∧ p.last ≤ 70000
  num : ∀ x ∈ ns, x ≤ 4294967295
  few : ps.length ≤ 1000000
  many : ns.length ≤ 100000000
theorem Rising.mono {ps : List PartL} (h : Rising ps) {i j : Nat} {p q : PartL} (hij : i ≤ j) (hp : ps[i]? = some p) (hq : ps[j]? = some q) : p.last ≤ q.last := by
  rcases Nat.lt_or_ge i j with g | g
  · obtain ⟨hi, rfl⟩ := List.getElem?_eq_some_iff.1 hp
    obtain ⟨hj, rfl⟩ := List.getElem?_eq_some_iff.1 hq
    have h1 := List.pairwise_iff_getElem.1 h.1 i j hi hj g
    have h2 := h.2 _ (List.getElem_mem hj)
    omega
  · obtain rfl : i = j := by omega
    rw [hp] at hq
    cases hq
    exact Nat.le_refl _
def lastAt (ps : List PartL) (i : Nat) : Nat := (ps[i]?.map PartL.last).getD 0
set_option maxRecDepth 100000 in
set_option maxHeartbeats 1600000 in
theorem get_any (B g fmt : Nat) (ps : List PartL) (ns : List Nat) (id : Int) (w : World) (h : TabIs B g fmt ps ns w) (hf : FitL ps ns) (hid : -9223372036854775808 ≤ id ∧ id ≤ 9223372036854775807) :
    Calls Try.prog 16 #[.pointer (some ⟨g, 0, none⟩), .int .i64 id] w fun e w' =>
      ((∃ p ∈ ps, (p.first : Nat) ≤ id ∧ id ≤ (p.last : Nat) ∧ e = .returned (.tuple #[.int .i64 (ns.getD (p.at_ + p.step * (id - p.first).toNat) 0 : Nat), .bool true])) ∨ ((∀ p ∈ ps, ¬ ((p.first : Nat) ≤ id ∧ id ≤ (p.last : Nat))) ∧ e = .returned (.tuple #[.int .i64 0, .bool false]))) ∧ Below w.heap.size w w' := by
  have hAC := allocC
  have hAF := allocF
  have hg0 : g < w.heap.size := by
    obtain ⟨_, _, _, _, h0, _⟩ := h.is
    exact (Array.getElem?_eq_some_iff.1 h0).1
  obtain ⟨W, hW⟩ : ∃ W, W = (w.alloc (Obj.cells #[.pointer (some ⟨g, 0, none⟩)] 46)).alloc (Obj.cells #[.int .i64 id] 3) := ⟨_, rfl⟩
  have hb : Below w.heap.size w W := by rw [hW]; exact (by repeat (first | with_reducible exact brefl _ | with_reducible assumption | (with_reducible refine bset ?_ (by first | (simp; done) | (simp; omega)) _) | with_reducible refine balloc ?_ _ | with_reducible refine bdrew ?_ _ | with_reducible refine bdrew1 ?_ | with_reducible refine bthen ?_ (by assumption) | with_reducible refine Below.trans ?_ (by assumption) | exact brefl _ | assumption | refine balloc ?_ _ | refine bdrew ?_ _ | refine bdrew1 ?_ | refine bthen ?_ (by assumption) | refine Below.trans ?_ (by assumption) | (refine bset ?_ (by first | (simp; done) | (simp; omega)) _)))
  have hz : W.heap.size = w.heap.size + 2 := by rw [hW]; simp
  have c2 : W.cell? ⟨w.heap.size, 0, none⟩ = some (.pointer (some ⟨g, 0, none⟩)) := by rw [hW]; simp [hAC]
  have c3 : W.cell? ⟨w.heap.size + 1, 0, none⟩ = some (.int .i64 id) := by rw [hW]; simp [hAC]
  have HT := Lib.hid (h.below hb)
  have HF := Lib.hid hf
  have HB := Lib.hid hb
  have hfew := hf.few
  have HI := Lib.hid (first_any 24 #[.pointer (some ⟨w.heap.size, 0, none⟩), .pointer (some ⟨w.heap.size + 1, 0, none⟩)] ps.length (fun i => decide (id ≤ (lastAt ps i : Nat))) (fun _ V => Below W.heap.size W V) W (by omega)
    (fun i j h1 h2 h3 => by
      have hp := List.getElem?_eq_getElem (show i < ps.length by omega)
      have hq := List.getElem?_eq_getElem h2
      have := hf.rising.mono h1 hp hq
      simp only [decide_eq_true_eq, lastAt, hp, hq, Option.map_some, Option.getD_some] at *
      omega) (brefl W) enter_get1
    (fun i k V hi _ hV => by
      have hp := List.getElem?_eq_getElem hi
      refine (get1_any B g fmt ps ns w.heap.size (w.heap.size + 1) i _ id V (HT.out.below hV) hp hfew ((hV.cell (p := ⟨w.heap.size, 0, none⟩) (by rw [hz]; simp)).trans c2) ((hV.cell (p := ⟨w.heap.size + 1, 0, none⟩) (by rw [hz]; simp)).trans c3)).mono ?_
      rintro e w' ⟨rfl, hb'⟩
      exact ⟨by simp only [lastAt, hp, Option.map_some, Option.getD_some], hV.trans (hb'.mono hV.size)⟩))
  obtain ⟨ap, cp, an, cn, h0, h1, _⟩ := h.is
  have c1 := cell_of_heap h0 1
  simp only [List.getElem?_toArray, List.getElem?_cons_succ, List.getElem?_cons_zero] at c1
  have H1 := Lib.hid (owns_below h1 HB.out (Nat.le_refl _))
  have hne1 : ¬ g = w.heap.size := by omega
  have hne2 : ¬ g = w.heap.size + 1 := by omega
  clear h hf hb h0 h1
  generalize hL : ps.length = L at *
  go_enter Try.func16, Try.ntmps16
  go_wp2_with fail
  rw [← hW]
  refine HI.out.mono ?_
  clear HI
  rintro e V ⟨r, k, hr, hlo, hhi, _, rfl, hV⟩
  have v2 := (hV.cell (p := ⟨w.heap.size, 0, none⟩) (by rw [hz]; simp)).trans c2
  have v3 := (hV.cell (p := ⟨w.heap.size + 1, 0, none⟩) (by rw [hz]; simp)).trans c3
  have hgW : g < W.heap.size := by omega
  have v1 := (hV.cell (p := ⟨g, 1, none⟩) hgW).trans ((HB.out.cell (p := ⟨g, 1, none⟩) hg0).trans c1)
  have hzV := hV.size
  have HBV := Lib.hid (HB.out.trans (hV.mono HB.out.size))
  have HLO := Lib.hid hlo
  have HHI := Lib.hid hhi
  have HTV := Lib.hid (HT.out.below hV)
  have HO := Lib.hid (owns_below H1.out hV (Nat.le_refl _))
  have HLL := Lib.hid hL
  have hlow : ∀ (q : PartL) (i : Nat), i < r → ps[i]? = some q → (q.last : Nat) < id := fun q i hi hq => by
    have := hlo i hi
    simp only [decide_eq_false_iff_not, lastAt, hq, Option.map_some, Option.getD_some] at this
    omega
  have HLW := Lib.hid hlow
  clear hW c1 c2 c3 hV hlo hhi HT H1 hL hlow
  by_cases hrL : r < L
  · obtain ⟨p, hp⟩ : ∃ p, ps[r]? = some p := ⟨_, List.getElem?_eq_getElem (by rw [HLL.out]; exact hrL)⟩
    obtain ⟨e0, e1, e2, e3⟩ := partsL_get ps r p hp
    obtain ⟨gp, hap⟩ : ∃ gp, ap = some ⟨gp, 0, none⟩ := by
      rcases HO.out.2 with ⟨hv, hn0⟩ | ⟨gp, cap, cur, hv, _⟩
      · omega
      · injection hv with ea _ _
        exact ⟨gp, ea⟩
    subst hap
    have k0 := (HO.out.cellAt (r * 4) (by omega)).trans e0
    have k1 := (HO.out.cellAt (r * 4 + 1) (by omega)).trans e1
    have k2 := (HO.out.cellAt (r * 4 + 2) (by omega)).trans e2
    have k3 := (HO.out.cellAt (r * 4 + 3) (by omega)).trans e3
    have hgp := cell_lt k0
    simp only at hgp
    have hd : ((r : Int) == (L : Int)) = false := by simp; omega
    have hmem : p ∈ ps := List.mem_of_getElem? hp
    have hle : id ≤ (p.last : Nat) := by
      have := HHI.out r (Nat.le_refl _) hrL
      simpa [lastAt, hp] using this
    by_cases hlt : id < (p.first : Nat)
    · have hd2 : decide (id < ((p.first : Nat) : Int)) = true := by simpa using hlt
      have HRES := Lib.hid (show ∀ q ∈ ps, ¬ ((q.first : Nat) ≤ id ∧ id ≤ (q.last : Nat)) from fun q hq hin => by
        obtain ⟨i, hi, rfl⟩ := List.getElem_of_mem hq
        have hiq := List.getElem?_eq_getElem hi
        rcases Nat.lt_trichotomy i r with hc | hc | hc
        · have := HLW.out _ i hc hiq
          omega
        · subst hc
          rw [hp] at hiq
          cases hiq
          omega
        · obtain ⟨hr', hpe⟩ := List.getElem?_eq_some_iff.1 hp
          have h1 := List.pairwise_iff_getElem.1 HF.out.rising.1 r i hr' hi hc
          have h2 := HF.out.rising.2 p hmem
          rw [hpe] at h1
          omega)
      clear e0 e1 e2 e3 hp hmem hle
      generalize p.first = f1 at *
      generalize p.last = f2 at *
      go_wp2_with fail
      refine wp_region_tree (.step 0 (.step 1 (.step 2 (.step 3 (.step 4 (.step 5 (.step 6 (.step 7 (.step 8 (.step 9 (.step 10 (.step 11 (.step 12 (.step 13 (.step 14 (.step 15 (.step 16 (.step 17 (.step 18 .nil))))))))))))))))))) (by kernel_rfl) (by kernel_rfl) (by kernel_rfl) (by kernel_rfl) (by intro _ _ d_ _ _ h_; cases d_ <;> first | exact h_ | (dsimp +zetaDelta only at h_ ⊢; exact h_)) (fun w' => ∃ p : Wld V [], w' = p.val) (wld_start _ _) ?_
      have hG_ := @wldC V
      (refine tree_quiet (by simp only [List.getElem?_toArray, List.getElem?_cons_succ, List.getElem?_cons_zero]; rfl) (by rfl) (by rfl) (fun K_ hK_ => ?_); go_big_quiet_op; refine hK_ _ ?_; clear hK_ K_)
      (refine tree_quiet (by simp only [List.getElem?_toArray, List.getElem?_cons_succ, List.getElem?_cons_zero]; rfl) (by rfl) (by rfl) (fun K_ hK_ => ?_); go_big_quiet_op; refine hK_ _ ?_; clear hK_ K_)
      (refine tree_quiet (by simp only [List.getElem?_toArray, List.getElem?_cons_succ, List.getElem?_cons_zero]; rfl) (by rfl) (by rfl) (fun K_ hK_ => ?_); go_big_quiet_op; refine hK_ _ ?_; clear hK_ K_)
      (refine tree_quiet (by simp only [List.getElem?_toArray, List.getElem?_cons_succ, List.getElem?_cons_zero]; rfl) (by rfl) (by rfl) (fun K_ hK_ => ?_); go_big_quiet_op; refine hK_ _ ?_; clear hK_ K_)
      (refine tree_quiet (by simp only [List.getElem?_toArray, List.getElem?_cons_succ, List.getElem?_cons_zero]; rfl) (by rfl) (by rfl) (fun K_ hK_ => ?_); go_big_quiet_op; refine hK_ _ ?_; clear hK_ K_)
      (refine tree_quiet (by simp only [List.getElem?_toArray, List.getElem?_cons_succ, List.getElem?_cons_zero]; rfl) (by rfl) (by rfl) (fun K_ hK_ => ?_); go_big_quiet_op; refine hK_ _ ?_; clear hK_ K_)
      (refine tree_quiet (by simp only [List.getElem?_toArray, List.getElem?_cons_succ, List.getElem?_cons_zero]; rfl) (by rfl) (by rfl) (fun K_ hK_ => ?_); go_big_quiet_op; refine hK_ _ ?_; clear hK_ K_)
      (refine tree_quiet (by simp only [List.getElem?_toArray, List.getElem?_cons_succ, List.getElem?_cons_zero]; rfl) (by rfl) (by rfl) (fun K_ hK_ => ?_); go_big_quiet_op; refine hK_ _ ?_; clear hK_ K_)
      (refine tree_quiet (by simp only [List.getElem?_toArray, List.getElem?_cons_succ, List.getElem?_cons_zero]; rfl) (by rfl) (by rfl) (fun K_ hK_ => ?_); go_big_quiet_op; refine hK_ _ ?_; clear hK_ K_)
      (refine tree_quiet (by simp only [List.getElem?_toArray, List.getElem?_cons_succ, List.getElem?_cons_zero]; rfl) (by rfl) (by rfl) (fun K_ hK_ => ?_); go_big_quiet_op; refine hK_ _ ?_; clear hK_ K_)
      (refine tree_quiet (by simp only [List.getElem?_toArray, List.getElem?_cons_succ, List.getElem?_cons_zero]; rfl) (by rfl) (by rfl) (fun K_ hK_ => ?_); go_big_quiet_op; refine hK_ _ ?_; clear hK_ K_)
      (refine tree_quiet (by simp only [List.getElem?_toArray, List.getElem?_cons_succ, List.getElem?_cons_zero]; rfl) (by rfl) (by rfl) (fun K_ hK_ => ?_); go_big_quiet_op; refine hK_ _ ?_; clear hK_ K_)
      (refine tree_quiet (by simp only [List.getElem?_toArray, List.getElem?_cons_succ, List.getElem?_cons_zero]; rfl) (by rfl) (by rfl) (fun K_ hK_ => ?_); go_big_quiet_op; refine hK_ _ ?_; clear hK_ K_)
      (refine tree_quiet (by simp only [List.getElem?_toArray, List.getElem?_cons_succ, List.getElem?_cons_zero]; rfl) (by rfl) (by rfl) (fun K_ hK_ => ?_); go_big_quiet_op; refine hK_ _ ?_; clear hK_ K_)
      (refine tree_quiet (by simp only [List.getElem?_toArray, List.getElem?_cons_succ, List.getElem?_cons_zero]; rfl) (by rfl) (by rfl) (fun K_ hK_ => ?_); go_big_quiet_op; refine hK_ _ ?_; clear hK_ K_)
      (refine tree_quiet (by simp only [List.getElem?_toArray, List.getElem?_cons_succ, List.getElem?_cons_zero]; rfl) (by rfl) (by rfl) (fun K_ hK_ => ?_); go_big_quiet_op; refine hK_ _ ?_; clear hK_ K_)
      (refine tree_quiet (by simp only [List.getElem?_toArray, List.getElem?_cons_succ, List.getElem?_cons_zero]; rfl) (by rfl) (by rfl) (fun K_ hK_ => ?_); go_big_quiet_op; refine hK_ _ ?_; clear hK_ K_)
      (refine tree_quiet (by simp only [List.getElem?_toArray, List.getElem?_cons_succ, List.getElem?_cons_zero]; rfl) (by rfl) (by rfl) (fun K_ hK_ => ?_); go_big_quiet_op; refine hK_ _ ?_; clear hK_ K_)
      (refine tree_quiet (by simp only [List.getElem?_toArray, List.getElem?_cons_succ, List.getElem?_cons_zero]; rfl) (by rfl) (by rfl) (fun K_ hK_ => ?_); go_big_quiet_op; refine hK_ _ ?_; clear hK_ K_)
      refine tree_nil ?_
      clear hG_
      go_wp2_with fail
      refine bodyPost_ret (v := .tuple #[.int .i64 0, .bool false]) (by simp [results, Try.results16, go_sem]) rfl ?_
      exact ⟨.inr ⟨HRES.out, rfl⟩, HBV.out.trans (Below.mono (show Below V.heap.size V _ from (by repeat (first | with_reducible exact brefl _ | with_reducible assumption | (with_reducible refine bset ?_ (by first | (simp; done) | (simp; omega)) _) | with_reducible refine balloc ?_ _ | with_reducible refine bdrew ?_ _ | with_reducible refine bdrew1 ?_ | with_reducible refine bthen ?_ (by assumption) | with_reducible refine Below.trans ?_ (by assumption) | exact brefl _ | assumption | refine balloc ?_ _ | refine bdrew ?_ _ | refine bdrew1 ?_ | refine bthen ?_ (by assumption) | refine Below.trans ?_ (by assumption) | (refine bset ?_ (by first | (simp; done) | (simp; omega)) _)))) (by omega))⟩
    · have hd2 : decide (id < ((p.first : Nat) : Int)) = false := by simp; omega
      obtain ⟨d, hdd⟩ : ∃ d : Nat, id = (p.first : Nat) + (d : Nat) := ⟨(id - p.first).toNat, by omega⟩
      obtain ⟨s1, s2, s3⟩ := HF.out.ok p hmem
      have hj : p.at_ + p.step * d < ns.length := by
        rcases s1 with s | s <;> rw [s] at s2 ⊢ <;> omega
      have HOF := Lib.hid (fun V' (hb : Below V.heap.size V V') => tof_any B g fmt ps ns p d id hdd V' (HTV.out.below hb) hj s1 ⟨by omega, HF.out.many⟩ HF.out.num)
      have HRES := Lib.hid (show ∃ q ∈ ps, (q.first : Nat) ≤ id ∧ id ≤ (q.last : Nat) ∧ (.returned (.tuple #[.int .i64 (ns.getD (p.at_ + p.step * d) 0 : Nat), .bool true]) : Ending) = .returned (.tuple #[.int .i64 (ns.getD (q.at_ + q.step * (id - q.first).toNat) 0 : Nat), .bool true]) from
        ⟨p, hmem, by omega, hle, by rw [show (id - (p.first : Nat)).toNat = d by omega]⟩)
      clear e0 e1 e2 e3 hp hmem hle hdd s1 s2 s3 hj
      generalize ns.getD (p.at_ + p.step * d) 0 = x at *
      generalize p.first = f1 at *
      generalize p.last = f2 at *
      generalize p.at_ = f3 at *
      generalize p.step = f4 at *
      go_wp2_with fail
      refine wp_region_tree (.step 0 (.step 1 (.step 2 (.step 3 (.step 4 (.step 5 (.step 6 (.step 7 (.step 8 (.step 9 (.step 10 (.step 11 (.step 12 (.step 13 (.step 14 (.step 15 (.step 16 (.step 17 (.step 18 .nil))))))))))))))))))) (by kernel_rfl) (by kernel_rfl) (by kernel_rfl) (by kernel_rfl) (by intro _ _ d_ _ _ h_; cases d_ <;> first | exact h_ | (dsimp +zetaDelta only at h_ ⊢; exact h_)) (fun w' => ∃ p : Wld V [], w' = p.val) (wld_start _ _) ?_
      have hG_ := @wldC V
      (refine tree_quiet (by simp only [List.getElem?_toArray, List.getElem?_cons_succ, List.getElem?_cons_zero]; rfl) (by rfl) (by rfl) (fun K_ hK_ => ?_); go_big_quiet_op; refine hK_ _ ?_; clear hK_ K_)
      (refine tree_quiet (by simp only [List.getElem?_toArray, List.getElem?_cons_succ, List.getElem?_cons_zero]; rfl) (by rfl) (by rfl) (fun K_ hK_ => ?_); go_big_quiet_op; refine hK_ _ ?_; clear hK_ K_)
      (refine tree_quiet (by simp only [List.getElem?_toArray, List.getElem?_cons_succ, List.getElem?_cons_zero]; rfl) (by rfl) (by rfl) (fun K_ hK_ => ?_); go_big_quiet_op; refine hK_ _ ?_; clear hK_ K_)
      (refine tree_quiet (by simp only [List.getElem?_toArray, List.getElem?_cons_succ, List.getElem?_cons_zero]; rfl) (by rfl) (by rfl) (fun K_ hK_ => ?_); go_big_quiet_op; refine hK_ _ ?_; clear hK_ K_)
      (refine tree_quiet (by simp only [List.getElem?_toArray, List.getElem?_cons_succ, List.getElem?_cons_zero]; rfl) (by rfl) (by rfl) (fun K_ hK_ => ?_); go_big_quiet_op; refine hK_ _ ?_; clear hK_ K_)
      (refine tree_quiet (by simp only [List.getElem?_toArray, List.getElem?_cons_succ, List.getElem?_cons_zero]; rfl) (by rfl) (by rfl) (fun K_ hK_ => ?_); go_big_quiet_op; refine hK_ _ ?_; clear hK_ K_)
      (refine tree_quiet (by simp only [List.getElem?_toArray, List.getElem?_cons_succ, List.getElem?_cons_zero]; rfl) (by rfl) (by rfl) (fun K_ hK_ => ?_); go_big_quiet_op; refine hK_ _ ?_; clear hK_ K_)
      (refine tree_quiet (by simp only [List.getElem?_toArray, List.getElem?_cons_succ, List.getElem?_cons_zero]; rfl) (by rfl) (by rfl) (fun K_ hK_ => ?_); go_big_quiet_op; refine hK_ _ ?_; clear hK_ K_)
      (refine tree_quiet (by simp only [List.getElem?_toArray, List.getElem?_cons_succ, List.getElem?_cons_zero]; rfl) (by rfl) (by rfl) (fun K_ hK_ => ?_); go_big_quiet_op; refine hK_ _ ?_; clear hK_ K_)
      (refine tree_quiet (by simp only [List.getElem?_toArray, List.getElem?_cons_succ, List.getElem?_cons_zero]; rfl) (by rfl) (by rfl) (fun K_ hK_ => ?_); go_big_quiet_op; refine hK_ _ ?_; clear hK_ K_)
      (refine tree_quiet (by simp only [List.getElem?_toArray, List.getElem?_cons_succ, List.getElem?_cons_zero]; rfl) (by rfl) (by rfl) (fun K_ hK_ => ?_); go_big_quiet_op; refine hK_ _ ?_; clear hK_ K_)
      (refine tree_quiet (by simp only [List.getElem?_toArray, List.getElem?_cons_succ, List.getElem?_cons_zero]; rfl) (by rfl) (by rfl) (fun K_ hK_ => ?_); go_big_quiet_op; refine hK_ _ ?_; clear hK_ K_)
      (refine tree_quiet (by simp only [List.getElem?_toArray, List.getElem?_cons_succ, List.getElem?_cons_zero]; rfl) (by rfl) (by rfl) (fun K_ hK_ => ?_); go_big_quiet_op; refine hK_ _ ?_; clear hK_ K_)
      (refine tree_quiet (by simp only [List.getElem?_toArray, List.getElem?_cons_succ, List.getElem?_cons_zero]; rfl) (by rfl) (by rfl) (fun K_ hK_ => ?_); go_big_quiet_op; refine hK_ _ ?_; clear hK_ K_)
      (refine tree_quiet (by simp only [List.getElem?_toArray, List.getElem?_cons_succ, List.getElem?_cons_zero]; rfl) (by rfl) (by rfl) (fun K_ hK_ => ?_); go_big_quiet_op; refine hK_ _ ?_; clear hK_ K_)
      (refine tree_quiet (by simp only [List.getElem?_toArray, List.getElem?_cons_succ, List.getElem?_cons_zero]; rfl) (by rfl) (by rfl) (fun K_ hK_ => ?_); go_big_quiet_op; refine hK_ _ ?_; clear hK_ K_)
      (refine tree_quiet (by simp only [List.getElem?_toArray, List.getElem?_cons_succ, List.getElem?_cons_zero]; rfl) (by rfl) (by rfl) (fun K_ hK_ => ?_); go_big_quiet_op; refine hK_ _ ?_; clear hK_ K_)
      (refine tree_quiet (by simp only [List.getElem?_toArray, List.getElem?_cons_succ, List.getElem?_cons_zero]; rfl) (by rfl) (by rfl) (fun K_ hK_ => ?_); go_big_quiet_op; refine hK_ _ ?_; clear hK_ K_)
      (refine tree_quiet (by simp only [List.getElem?_toArray, List.getElem?_cons_succ, List.getElem?_cons_zero]; rfl) (by rfl) (by rfl) (fun K_ hK_ => ?_); go_big_quiet_op; refine hK_ _ ?_; clear hK_ K_)
      refine tree_nil ?_
      clear hG_
      go_wp2_with fail
      obtain ⟨V2, hV2⟩ : ∃ V2, V2 = V.drew := ⟨_, rfl⟩
      have hb2 : Below V.heap.size V V2 := by rw [hV2]; exact bdrew1 (brefl V)
      have hz2 := hb2.size
      have u1 := (hb2.cell (p := ⟨g, 1, none⟩) (by show g < V.heap.size; omega)).trans v1
      have u2 := (hb2.cell (p := ⟨w.heap.size, 0, none⟩) (by show w.heap.size < V.heap.size; omega)).trans v2
      have u3 := (hb2.cell (p := ⟨w.heap.size + 1, 0, none⟩) (by show w.heap.size + 1 < V.heap.size; omega)).trans v3
      have j0 := (hb2.cell (p := ⟨gp, r * 4, none⟩) hgp).trans k0
      have j1 := (hb2.cell (p := ⟨gp, r * 4 + 1, none⟩) hgp).trans k1
      have j2 := (hb2.cell (p := ⟨gp, r * 4 + 2, none⟩) hgp).trans k2
      have j3 := (hb2.cell (p := ⟨gp, r * 4 + 3, none⟩) hgp).trans k3
      have HB2 := Lib.hid hb2
      rw [← hV2]
      clear hV2 hb2 v1 v2 v3 k0 k1 k2 k3
      refine wp_region_tree (.step 0 (.step 1 (.step 2 (.step 3 (.step 4 (.step 5 (.step 6 (.step 7 (.step 8 (.step 9 (.step 10 (.step 11 .nil)))))))))))) (by kernel_rfl) (by kernel_rfl) (by kernel_rfl) (by kernel_rfl) (by intro _ _ d_ _ _ h_; cases d_ <;> first | exact h_ | (dsimp +zetaDelta only at h_ ⊢; exact h_)) (fun w' => ∃ p : Wld V2 [], w' = p.val) (wld_start _ _) ?_
      have hG_ := @wldC V2
      (refine tree_quiet (by simp only [List.getElem?_toArray, List.getElem?_cons_succ, List.getElem?_cons_zero]; rfl) (by rfl) (by rfl) (fun K_ hK_ => ?_); go_big_quiet_op; refine hK_ _ ?_; clear hK_ K_)
      (refine tree_quiet (by simp only [List.getElem?_toArray, List.getElem?_cons_succ, List.getElem?_cons_zero]; rfl) (by rfl) (by rfl) (fun K_ hK_ => ?_); go_big_quiet_op; refine hK_ _ ?_; clear hK_ K_)
      (refine tree_quiet (by simp only [List.getElem?_toArray, List.getElem?_cons_succ, List.getElem?_cons_zero]; rfl) (by rfl) (by rfl) (fun K_ hK_ => ?_); go_big_quiet_op; refine hK_ _ ?_; clear hK_ K_)
      (refine tree_quiet (by simp only [List.getElem?_toArray, List.getElem?_cons_succ, List.getElem?_cons_zero]; rfl) (by rfl) (by rfl) (fun K_ hK_ => ?_); go_big_quiet_op; refine hK_ _ ?_; clear hK_ K_)
      (refine tree_quiet (by simp only [List.getElem?_toArray, List.getElem?_cons_succ, List.getElem?_cons_zero]; rfl) (by rfl) (by rfl) (fun K_ hK_ => ?_); go_big_quiet_op; refine hK_ _ ?_; clear hK_ K_)
      (refine tree_quiet (by simp only [List.getElem?_toArray, List.getElem?_cons_succ, List.getElem?_cons_zero]; rfl) (by rfl) (by rfl) (fun K_ hK_ => ?_); go_big_quiet_op; refine hK_ _ ?_; clear hK_ K_)
      (refine tree_quiet (by simp only [List.getElem?_toArray, List.getElem?_cons_succ, List.getElem?_cons_zero]; rfl) (by rfl) (by rfl) (fun K_ hK_ => ?_); go_big_quiet_op; refine hK_ _ ?_; clear hK_ K_)
      (refine tree_quiet (by simp only [List.getElem?_toArray, List.getElem?_cons_succ, List.getElem?_cons_zero]; rfl) (by rfl) (by rfl) (fun K_ hK_ => ?_); go_big_quiet_op; refine hK_ _ ?_; clear hK_ K_)
      (refine tree_quiet (by simp only [List.getElem?_toArray, List.getElem?_cons_succ, List.getElem?_cons_zero]; rfl) (by rfl) (by rfl) (fun K_ hK_ => ?_); go_big_quiet_op; refine hK_ _ ?_; clear hK_ K_)
      (refine tree_run (by simp only [List.getElem?_toArray, List.getElem?_cons_succ, List.getElem?_cons_zero]; rfl) (by rfl) (by rfl) (fun K_ hK_ => ?_); have HK_ := Lib.hid hK_; clear hK_; go_wp2_with ((go_at_call 25; refine (HOF.out _ (HB2.out.trans (Below.mono (show Below V2.heap.size V2 _ from (by repeat (first | with_reducible exact brefl _ | with_reducible assumption | (with_reducible refine bset ?_ (by first | (simp; done) | (simp; omega)) _) | with_reducible refine balloc ?_ _ | with_reducible refine bdrew ?_ _ | with_reducible refine bdrew1 ?_ | with_reducible refine bthen ?_ (by assumption) | with_reducible refine Below.trans ?_ (by assumption) | exact brefl _ | assumption | refine balloc ?_ _ | refine bdrew ?_ _ | refine bdrew1 ?_ | refine bthen ?_ (by assumption) | refine Below.trans ?_ (by assumption) | (refine bset ?_ (by first | (simp; done) | (simp; omega)) _)))) hz2))).mono ?_; rintro e va ⟨rfl, hba⟩)); refine HK_.out _ _ (wld_of (by repeat (first | with_reducible exact same_below (brefl _) | with_reducible exact same_below (bdrew1 (brefl _)) | with_reducible assumption | with_reducible refine same_drew ?_ | (with_reducible refine same_set ?_ (by first | (left; simp; done) | (right; simp; done) | (right; simp; omega)) _) | with_reducible refine same_then ?_ (by assumption) | with_reducible refine same_alloc ?_ _ | exact same_below (brefl _) | exact same_realloc (by simp) | exact same_below (bdrew1 (brefl _)) | assumption | refine same_drew ?_ | refine same_then ?_ (by assumption) | refine same_alloc ?_ _ | (refine same_set ?_ (by first | (left; simp; done) | (right; simp; done) | (right; simp; omega)) _)))) ?_; clear HK_)
      (refine tree_quiet (by simp only [List.getElem?_toArray, List.getElem?_cons_succ, List.getElem?_cons_zero]; rfl) (by rfl) (by rfl) (fun K_ hK_ => ?_); go_big_quiet_op; refine hK_ _ ?_; clear hK_ K_)
      (refine tree_quiet (by simp only [List.getElem?_toArray, List.getElem?_cons_succ, List.getElem?_cons_zero]; rfl) (by rfl) (by rfl) (fun K_ hK_ => ?_); go_big_quiet_op; refine hK_ _ ?_; clear hK_ K_)
      refine tree_nil ?_
      clear hG_
      go_wp2_with fail
      refine bodyPost_ret (v := .tuple #[.int .i64 (x : Nat), .bool true]) (by simp [results, Try.results16, go_sem]) rfl ?_
      exact ⟨.inl HRES.out, HBV.out.trans ((HB2.out.trans (Below.mono (show Below V2.heap.size V2 _ from (by repeat (first | with_reducible exact brefl _ | with_reducible assumption | (with_reducible refine bset ?_ (by first | (simp; done) | (simp; omega)) _) | with_reducible refine balloc ?_ _ | with_reducible refine bdrew ?_ _ | with_reducible refine bdrew1 ?_ | with_reducible refine bthen ?_ (by assumption) | with_reducible refine Below.trans ?_ (by assumption) | exact brefl _ | assumption | refine balloc ?_ _ | refine bdrew ?_ _ | refine bdrew1 ?_ | refine bthen ?_ (by assumption) | refine Below.trans ?_ (by assumption) | (refine bset ?_ (by first | (simp; done) | (simp; omega)) _)))) hz2)).mono (by omega))⟩
  · obtain rfl : r = L := by omega
    have HRES := Lib.hid (show ∀ q ∈ ps, ¬ ((q.first : Nat) ≤ id ∧ id ≤ (q.last : Nat)) from fun q hq hin => by
      obtain ⟨i, hi, rfl⟩ := List.getElem_of_mem hq
      have := HLW.out _ i (by rw [← HLL.out]; exact hi) (List.getElem?_eq_getElem hi)
      omega)
    go_wp2_with fail
    refine wp_region_tree (.step 0 (.step 1 (.step 2 (.step 3 (.step 4 (.step 5 (.step 6 (.step 7 (.step 8 (.step 9 (.step 10 (.step 11 (.step 12 (.step 13 (.step 14 (.step 15 (.step 16 (.step 17 (.step 18 .nil))))))))))))))))))) (by kernel_rfl) (by kernel_rfl) (by kernel_rfl) (by kernel_rfl) (by intro _ _ d_ _ _ h_; cases d_ <;> first | exact h_ | (dsimp +zetaDelta only at h_ ⊢; exact h_)) (fun w' => ∃ p : Wld V [], w' = p.val) (wld_start _ _) ?_
    have hG_ := @wldC V
    (refine tree_quiet (by simp only [List.getElem?_toArray, List.getElem?_cons_succ, List.getElem?_cons_zero]; rfl) (by rfl) (by rfl) (fun K_ hK_ => ?_); go_big_quiet_op; refine hK_ _ ?_; clear hK_ K_)
    (refine tree_quiet (by simp only [List.getElem?_toArray, List.getElem?_cons_succ, List.getElem?_cons_zero]; rfl) (by rfl) (by rfl) (fun K_ hK_ => ?_); go_big_quiet_op; refine hK_ _ ?_; clear hK_ K_)
    (refine tree_quiet (by simp only [List.getElem?_toArray, List.getElem?_cons_succ, List.getElem?_cons_zero]; rfl) (by rfl) (by rfl) (fun K_ hK_ => ?_); go_big_quiet_op; refine hK_ _ ?_; clear hK_ K_)
    (refine tree_quiet (by simp only [List.getElem?_toArray, List.getElem?_cons_succ, List.getElem?_cons_zero]; rfl) (by rfl) (by rfl) (fun K_ hK_ => ?_); go_big_quiet_op; refine hK_ _ ?_; clear hK_ K_)
    (refine tree_quiet (by simp only [List.getElem?_toArray, List.getElem?_cons_succ, List.getElem?_cons_zero]; rfl) (by rfl) (by rfl) (fun K_ hK_ => ?_); go_big_quiet_op; refine hK_ _ ?_; clear hK_ K_)
    (refine tree_quiet (by simp only [List.getElem?_toArray, List.getElem?_cons_succ, List.getElem?_cons_zero]; rfl) (by rfl) (by rfl) (fun K_ hK_ => ?_); go_big_quiet_op; refine hK_ _ ?_; clear hK_ K_)
    (refine tree_quiet (by simp only [List.getElem?_toArray, List.getElem?_cons_succ, List.getElem?_cons_zero]; rfl) (by rfl) (by rfl) (fun K_ hK_ => ?_); go_big_quiet_op; refine hK_ _ ?_; clear hK_ K_)
    (refine tree_quiet (by simp only [List.getElem?_toArray, List.getElem?_cons_succ, List.getElem?_cons_zero]; rfl) (by rfl) (by rfl) (fun K_ hK_ => ?_); go_big_quiet_op; refine hK_ _ ?_; clear hK_ K_)
    refine tree_skip (by simp only [List.getElem?_toArray, List.getElem?_cons_succ, List.getElem?_cons_zero]; rfl) (by rfl) ?_; dsimp only [Act.put]; simp only [List.setIfInBounds_toArray, List.set_cons_succ, List.set_cons_zero]
    refine tree_skip (by simp only [List.getElem?_toArray, List.getElem?_cons_succ, List.getElem?_cons_zero]; rfl) (by rfl) ?_; dsimp only [Act.put]; simp only [List.setIfInBounds_toArray, List.set_cons_succ, List.set_cons_zero]
    refine tree_skip (by simp only [List.getElem?_toArray, List.getElem?_cons_succ, List.getElem?_cons_zero]; rfl) (by rfl) ?_; dsimp only [Act.put]; simp only [List.setIfInBounds_toArray, List.set_cons_succ, List.set_cons_zero]
    refine tree_skip (by simp only [List.getElem?_toArray, List.getElem?_cons_succ, List.getElem?_cons_zero]; rfl) (by rfl) ?_; dsimp only [Act.put]; simp only [List.setIfInBounds_toArray, List.set_cons_succ, List.set_cons_zero]
    refine tree_skip (by simp only [List.getElem?_toArray, List.getElem?_cons_succ, List.getElem?_cons_zero]; rfl) (by rfl) ?_; dsimp only [Act.put]; simp only [List.setIfInBounds_toArray, List.set_cons_succ, List.set_cons_zero]
    refine tree_skip (by simp only [List.getElem?_toArray, List.getElem?_cons_succ, List.getElem?_cons_zero]; rfl) (by rfl) ?_; dsimp only [Act.put]; simp only [List.setIfInBounds_toArray, List.set_cons_succ, List.set_cons_zero]
    refine tree_skip (by simp only [List.getElem?_toArray, List.getElem?_cons_succ, List.getElem?_cons_zero]; rfl) (by rfl) ?_; dsimp only [Act.put]; simp only [List.setIfInBounds_toArray, List.set_cons_succ, List.set_cons_zero]
    refine tree_skip (by simp only [List.getElem?_toArray, List.getElem?_cons_succ, List.getElem?_cons_zero]; rfl) (by rfl) ?_; dsimp only [Act.put]; simp only [List.setIfInBounds_toArray, List.set_cons_succ, List.set_cons_zero]
    refine tree_skip (by simp only [List.getElem?_toArray, List.getElem?_cons_succ, List.getElem?_cons_zero]; rfl) (by rfl) ?_; dsimp only [Act.put]; simp only [List.setIfInBounds_toArray, List.set_cons_succ, List.set_cons_zero]
    refine tree_skip (by simp only [List.getElem?_toArray, List.getElem?_cons_succ, List.getElem?_cons_zero]; rfl) (by rfl) ?_; dsimp only [Act.put]; simp only [List.setIfInBounds_toArray, List.set_cons_succ, List.set_cons_zero]
    (refine tree_quiet (by simp only [List.getElem?_toArray, List.getElem?_cons_succ, List.getElem?_cons_zero]; rfl) (by rfl) (by rfl) (fun K_ hK_ => ?_); go_big_quiet_op; refine hK_ _ ?_; clear hK_ K_)
    refine tree_nil ?_
    clear hG_
    go_wp2_with fail
    refine bodyPost_ret (v := .tuple #[.int .i64 0, .bool false]) (by simp [results, Try.results16, go_sem]) rfl ?_
    exact ⟨.inr ⟨HRES.out, rfl⟩, HBV.out.trans (Below.mono (show Below V.heap.size V _ from (by repeat (first | with_reducible exact brefl _ | with_reducible assumption | (with_reducible refine bset ?_ (by first | (simp; done) | (simp; omega)) _) | with_reducible refine balloc ?_ _ | with_reducible refine bdrew ?_ _ | with_reducible refine bdrew1 ?_ | with_reducible refine bthen ?_ (by assumption) | with_reducible refine Below.trans ?_ (by assumption) | exact brefl _ | assumption | refine balloc ?_ _ | refine bdrew ?_ _ | refine bdrew1 ?_ | refine bthen ?_ (by assumption) | refine Below.trans ?_ (by assumption) | (refine bset ?_ (by first | (simp; done) | (simp; omega)) _)))) (by omega))⟩
end Go.Proofs.Ythjnpfhcjacibaa
