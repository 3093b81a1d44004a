
/- THERE AND BACK: features whose types rise are read as they were written. No condition but those of the statement. -/
import Derived.Test.YtfnghinefbmlmaaFeatZ
import Derived.Test.YtfnghinefbmlmaaFeatO
import Derived.Test.YtfnghinefbmlmaaFrame
namespace Go.Proofs.Ytfnghinefbmlmaa
open Go.RowKit Go.Lib
def RiseK (ps : List PlanF) (k : Nat) : Prop := ∀ i p q, i + 1 < k → ps[i]? = some p → ps[i + 1]? = some q → p.ty < q.ty
theorem riseK_all {ps : List PlanF} : RiseK ps ps.length ↔ RiseF ps := ⟨fun h i p q hp hq => h i p q (List.getElem?_eq_some_iff.1 hq).1 hp hq, fun h i p q _ hp hq => h i p q hp hq⟩
theorem riseK_one (ps : List PlanF) : RiseK ps 1 := fun i p q hi => by omega
theorem riseK_next {ps : List PlanF} {k : Nat} {p q : PlanF} (hp : ps[k]? = some p) (hq : ps[k + 1]? = some q) : RiseK ps (k + 2) ↔ RiseK ps (k + 1) ∧ p.ty < q.ty := by
  constructor
  · exact fun h => ⟨fun i x y hi => h i x y (by omega), h k p q (by omega) hp hq⟩
  · rintro ⟨h, hlt⟩ i x y hi hx hy
    rcases Nat.lt_or_ge (i + 1) (k + 1) with g | g
    · exact h i x y g hx hy
    · obtain rfl : i = k := by omega
      rw [hp] at hx
      rw [hq] at hy
      cases hx
      cases hy
      exact hlt
theorem bt15 (k : Nat) (h : k ≤ 65535) : bt k 15 = decide (32768 ≤ k) := by
  unfold bt
  by_cases g : 32768 ≤ k
  · simp only [g, decide_true, decide_eq_true_eq]; omega
  · simp only [g, decide_false, decide_eq_false_iff_not]; omega
structure PlCells (wr : World) (bE oE k : Nat) (p : PlanF) : Prop where
  c0 : wr.cell? ⟨bE, oE + k * 3, none⟩ = some (.int .u16 (p.ty : Nat))
  c1 : wr.cell? ⟨bE, oE + k * 3 + 1, none⟩ = some (.int .u16 (p.fl : Nat))
  c2 : wr.cell? ⟨bE, oE + k * 3 + 2, none⟩ = some (.slice p.a p.ss.length p.c)
theorem pl_cells {wr : World} {bE oE k : Nat} {ps : List PlanF} {p : PlanF} (h : Has wr (some ⟨bE, oE, none⟩) (plansF ps)) (hp : ps[k]? = some p) : PlCells wr bE oE k p := by
  have key : ∀ o, o < 3 → ∀ u, p.enc[o]? = some u → wr.cell? ⟨bE, oE + (k * 3 + o), none⟩ = some u := fun o ho u hu => by
    obtain ⟨x, hx, hc⟩ := h (k * 3 + o) u ((plansF_get ps k p hp o ho).trans hu)
    cases hx
    rwa [show (⟨bE, oE, none⟩ : Addr).add (k * 3 + o) = ⟨bE, oE + (k * 3 + o), none⟩ by simp only [Addr.add]; split <;> simp_all] at hc
  exact ⟨key 0 (by omega) _ rfl, by have := key 1 (by omega) _ rfl; rwa [← Nat.add_assoc] at this, by have := key 2 (by omega) _ rfl; rwa [← Nat.add_assoc] at this⟩
theorem pl_addr {w : World} {la : Option Addr} {ps : List PlanF} (h : Has w la (plansF ps)) {k : Nat} {p : PlanF} (hp : ps[k]? = some p) : ∃ bE oE, la = some ⟨bE, oE, none⟩ ∧ bE < w.heap.size := by
  obtain ⟨bE, oE, h1, h2, _⟩ := h.get (by
    rcases Nat.eq_zero_or_pos (plansF ps).length with g0 | g0
    · have := plansF_get ps k p hp 0 (by omega)
      rw [List.getElem?_eq_none (by omega)] at this
      simp [PlanF.enc] at this
    · exact g0)
  exact ⟨bE, oE, h1, h2⟩
set_option maxRecDepth 100000 in
set_option maxHeartbeats 3200000 in
theorem featBack_walk (la : Option Addr) (n lc : Nat) (ps : List PlanF) (w : World) (h : Has w la (plansF ps)) (hl : ps.length = n) (hps : ∀ p ∈ ps, p.ty ≤ 65535 ∧ p.fl ≤ 65535 ∧ (∀ s ∈ p.ss, s ≤ 65535) ∧ Has w p.a (n16V p.ss)) (hn : n ≤ maxLen) :
    Calls Try.prog 3 #[.slice la n lc] w fun e w' => e = .returned (.bool true) ∧ Below w.heap.size w w' := by
  have hAC := allocC
  have hAF := allocF
  have HSP := Lib.hid (fun W => speaks8_any W)
  by_cases hbig : 30 < n
  · have d1 : decide (30 < (n : Int)) = true := by simp; omega
    clear h hl hps
    unfold maxLen at hn
    go_enter Try.func3, Try.ntmps3
    go_wp2_with (first | (go_at_call 11; (with_reducible refine (HSP.out _).mono ?_); rintro e w1 ⟨rfl, hb1⟩; have h1c := bc hb1; have h1f := bf hb1; have h1z := hb1.size; try simp only [World.size_alloc, World.size_drew] at h1z))
    go_ret
    exact ⟨rfl, blw⟩
  have d1 : decide (30 < (n : Int)) = false := by simp; omega
  have HH := Lib.hid h
  have HL := Lib.hid hl
  have HPS := Lib.hid hps
  clear h hl hps hn
  go_enter Try.func3, Try.ntmps3
  go_wp2_with (first | (go_at_call 11; (with_reducible refine (HSP.out _).mono ?_); rintro e w1 ⟨rfl, hb1⟩; have h1c := bc hb1; have h1f := bf hb1; have h1z := hb1.size; try simp only [World.size_alloc, World.size_drew] at h1z))
  have HB1 := Lib.hid hb1
  have hz1 := hb1.size
  clear hb1 h1c h1f d1
  go_loopw [3, 19] (fun r i wr => ∃ (k : Nat) (b : Bool), k ≤ n ∧ i = .int .i64 (k : Nat) ∧ r = .bool b ∧ (b = true ↔ RiseK ps k) ∧ (∀ p ∈ ps.take k, p.ss.length ≤ 60) ∧ Below w1.heap.size w1 wr) (fun _ i _ => n - (intOf i).toNat)
  case atStart => exact ⟨0, true, Nat.zero_le _, rfl, rfl, ⟨fun _ i p q hi => by omega, fun _ => rfl⟩, fun p hp => by simp at hp, Below.refl _ _⟩
  case round =>
    obtain ⟨k, b, hk, rfl, rfl, hb, hlen, hbe⟩ := hrel
    have HBB := Lib.hid hb
    have HLEN := Lib.hid hlen
    have HBR := Lib.hid (HB1.out.trans (hbe.mono hz1))
    have HBR1 := Lib.hid hbe
    have hzr := hbe.size
    clear hb hlen hbe
    by_cases hlt : k < n
    · obtain ⟨p, hp⟩ : ∃ p, ps[k]? = some p := ⟨_, List.getElem?_eq_getElem (by rw [HL.out]; exact hlt)⟩
      obtain ⟨bE, oE, rfl, hbE⟩ := pl_addr (HH.out.below HBR.out) hp
      obtain ⟨e0, e1, e2⟩ := pl_cells (HH.out.below HBR.out) hp
      obtain ⟨p1, p2, p3, p4⟩ := HPS.out p (List.mem_of_getElem? hp)
      by_cases h60 : 60 < p.ss.length
      · have d2 : decide (60 < (p.ss.length : Int)) = true := by simp; omega
        clear p3 p4 h60 hp
        generalize p.ss.length = m at *
        generalize p.ty = ty at *
        generalize p.fl = fl at *
        go_wp2_with fail
        go_ret
        exact ⟨rfl, HBR.out.trans (Below.mono (show Below wr.heap.size wr _ from by exact blw) HBR.out.size)⟩
      have d2 : decide (60 < (p.ss.length : Int)) = false := by simp; omega
      have HLN := Lib.hid (show ∀ q ∈ ps.take (k + 1), q.ss.length ≤ 60 from fun q hq => by
        rw [List.take_add_one, hp] at hq
        rcases List.mem_append.1 hq with hq | hq
        · exact HLEN.out q hq
        · simp at hq
          rw [hq]
          omega)
      clear p3 p4 h60
      cases b with
      | false =>
        have HN := Lib.hid (show false = true ↔ RiseK ps (k + 1) from ⟨fun h => (by cases h), fun h => HBB.out.2 fun i x y hi => h i x y (by omega)⟩)
        clear hp
        generalize p.ss.length = m at *
        generalize p.ty = ty at *
        generalize p.fl = fl at *
        go_wp2_with fail
        obtain ⟨U, hU⟩ : ∃ U, U = wr.alloc (Obj.cells #[.int .u16 (ty : Nat), .int .u16 (fl : Nat), .slice p.a m p.c] 27) := ⟨_, rfl⟩
        have HBU := Lib.hid (show Below w1.heap.size w1 U from by rw [hU]; exact balloc HBR1.out _)
        rw [← hU]
        clear hU e0 e1 e2
        refine wp_region_tree (.step 0 (.step 1 (.step 2 (.step 3 (.step 4 (.step 5 (.step 6 (.step 7 (.step 8 (.step 9 (.step 10 (.step 11 (.step 12 (.step 13 (.step 14 (.step 15 (.step 16 .nil))))))))))))))))) (by kernel_rfl) (by kernel_rfl) (by kernel_rfl) (by kernel_rfl) (by intro _ _ d_ _ _ h_; cases d_ <;> first | exact h_ | (dsimp +zetaDelta only at h_ ⊢; exact h_)) (fun w' => ∃ p : Wld U [], w' = p.val) (wld_start _ _) ?_
        have hG_ := @wldC U
        (refine tree_quiet (by simp only [List.getElem?_toArray, List.getElem?_cons_succ, List.getElem?_cons_zero]; rfl) (by rfl) (by rfl) (fun K_ hK_ => ?_); go_big_quiet_op; refine hK_ _ ?_; clear hK_ K_)
        (refine tree_quiet (by simp only [List.getElem?_toArray, List.getElem?_cons_succ, List.getElem?_cons_zero]; rfl) (by rfl) (by rfl) (fun K_ hK_ => ?_); go_big_quiet_op; refine hK_ _ ?_; clear hK_ K_)
        refine tree_skip (by simp only [List.getElem?_toArray, List.getElem?_cons_succ, List.getElem?_cons_zero]; rfl) (by rfl) ?_; dsimp only [Act.put]; simp only [List.setIfInBounds_toArray, List.set_cons_succ, List.set_cons_zero]
        refine tree_skip (by simp only [List.getElem?_toArray, List.getElem?_cons_succ, List.getElem?_cons_zero]; rfl) (by rfl) ?_; dsimp only [Act.put]; simp only [List.setIfInBounds_toArray, List.set_cons_succ, List.set_cons_zero]
        refine tree_skip (by simp only [List.getElem?_toArray, List.getElem?_cons_succ, List.getElem?_cons_zero]; rfl) (by rfl) ?_; dsimp only [Act.put]; simp only [List.setIfInBounds_toArray, List.set_cons_succ, List.set_cons_zero]
        refine tree_skip (by simp only [List.getElem?_toArray, List.getElem?_cons_succ, List.getElem?_cons_zero]; rfl) (by rfl) ?_; dsimp only [Act.put]; simp only [List.setIfInBounds_toArray, List.set_cons_succ, List.set_cons_zero]
        refine tree_skip (by simp only [List.getElem?_toArray, List.getElem?_cons_succ, List.getElem?_cons_zero]; rfl) (by rfl) ?_; dsimp only [Act.put]; simp only [List.setIfInBounds_toArray, List.set_cons_succ, List.set_cons_zero]
        refine tree_skip (by simp only [List.getElem?_toArray, List.getElem?_cons_succ, List.getElem?_cons_zero]; rfl) (by rfl) ?_; dsimp only [Act.put]; simp only [List.setIfInBounds_toArray, List.set_cons_succ, List.set_cons_zero]
        refine tree_skip (by simp only [List.getElem?_toArray, List.getElem?_cons_succ, List.getElem?_cons_zero]; rfl) (by rfl) ?_; dsimp only [Act.put]; simp only [List.setIfInBounds_toArray, List.set_cons_succ, List.set_cons_zero]
        refine tree_skip (by simp only [List.getElem?_toArray, List.getElem?_cons_succ, List.getElem?_cons_zero]; rfl) (by rfl) ?_; dsimp only [Act.put]; simp only [List.setIfInBounds_toArray, List.set_cons_succ, List.set_cons_zero]
        refine tree_skip (by simp only [List.getElem?_toArray, List.getElem?_cons_succ, List.getElem?_cons_zero]; rfl) (by rfl) ?_; dsimp only [Act.put]; simp only [List.setIfInBounds_toArray, List.set_cons_succ, List.set_cons_zero]
        refine tree_skip (by simp only [List.getElem?_toArray, List.getElem?_cons_succ, List.getElem?_cons_zero]; rfl) (by rfl) ?_; dsimp only [Act.put]; simp only [List.setIfInBounds_toArray, List.set_cons_succ, List.set_cons_zero]
        refine tree_skip (by simp only [List.getElem?_toArray, List.getElem?_cons_succ, List.getElem?_cons_zero]; rfl) (by rfl) ?_; dsimp only [Act.put]; simp only [List.setIfInBounds_toArray, List.set_cons_succ, List.set_cons_zero]
        refine tree_skip (by simp only [List.getElem?_toArray, List.getElem?_cons_succ, List.getElem?_cons_zero]; rfl) (by rfl) ?_; dsimp only [Act.put]; simp only [List.setIfInBounds_toArray, List.set_cons_succ, List.set_cons_zero]
        refine tree_skip (by simp only [List.getElem?_toArray, List.getElem?_cons_succ, List.getElem?_cons_zero]; rfl) (by rfl) ?_; dsimp only [Act.put]; simp only [List.setIfInBounds_toArray, List.set_cons_succ, List.set_cons_zero]
        (refine tree_quiet (by simp only [List.getElem?_toArray, List.getElem?_cons_succ, List.getElem?_cons_zero]; rfl) (by rfl) (by rfl) (fun K_ hK_ => ?_); go_big_quiet_op; refine hK_ _ ?_; clear hK_ K_)
        (refine tree_quiet (by simp only [List.getElem?_toArray, List.getElem?_cons_succ, List.getElem?_cons_zero]; rfl) (by rfl) (by rfl) (fun K_ hK_ => ?_); go_big_quiet_op; refine hK_ _ ?_; clear hK_ K_)
        refine tree_nil ?_
        clear hG_
        go_wp2_with fail
        go_roundw
        case rel => exact ⟨k + 1, false, hlt, by go_num, rfl, HN.out, HLN.out, HBU.out.drew⟩
        case measure => simp [intOf]; omega
      | true =>
        rcases Nat.eq_zero_or_pos k with hk0 | hk0
        · have HN := Lib.hid (show RiseK ps (k + 1) from by rw [hk0]; exact riseK_one ps)
          have hk1 : ((k : Int) == 0) = true := by simp; omega
          clear hp hk0
          generalize p.ss.length = m at *
          generalize p.ty = ty at *
          generalize p.fl = fl at *
          go_wp2_with fail
          obtain ⟨U, hU⟩ : ∃ U, U = wr.alloc (Obj.cells #[.int .u16 (ty : Nat), .int .u16 (fl : Nat), .slice p.a m p.c] 27) := ⟨_, rfl⟩
          have HBU := Lib.hid (show Below w1.heap.size w1 U from by rw [hU]; exact balloc HBR1.out _)
          rw [← hU]
          clear hU e0 e1 e2
          refine wp_region_tree (.step 0 (.step 1 (.step 2 (.step 3 (.step 4 (.step 5 (.step 6 (.step 7 (.step 8 (.step 9 (.step 10 (.step 11 (.step 12 (.step 13 (.step 14 (.step 15 (.step 16 .nil))))))))))))))))) (by kernel_rfl) (by kernel_rfl) (by kernel_rfl) (by kernel_rfl) (by intro _ _ d_ _ _ h_; cases d_ <;> first | exact h_ | (dsimp +zetaDelta only at h_ ⊢; exact h_)) (fun w' => ∃ p : Wld U [], w' = p.val) (wld_start _ _) ?_
          have hG_ := @wldC U
          (refine tree_quiet (by simp only [List.getElem?_toArray, List.getElem?_cons_succ, List.getElem?_cons_zero]; rfl) (by rfl) (by rfl) (fun K_ hK_ => ?_); go_big_quiet_op; refine hK_ _ ?_; clear hK_ K_)
          (refine tree_quiet (by simp only [List.getElem?_toArray, List.getElem?_cons_succ, List.getElem?_cons_zero]; rfl) (by rfl) (by rfl) (fun K_ hK_ => ?_); go_big_quiet_op; refine hK_ _ ?_; clear hK_ K_)
          (refine tree_quiet (by simp only [List.getElem?_toArray, List.getElem?_cons_succ, List.getElem?_cons_zero]; rfl) (by rfl) (by rfl) (fun K_ hK_ => ?_); go_big_quiet_op; refine hK_ _ ?_; clear hK_ K_)
          (refine tree_quiet (by simp only [List.getElem?_toArray, List.getElem?_cons_succ, List.getElem?_cons_zero]; rfl) (by rfl) (by rfl) (fun K_ hK_ => ?_); go_big_quiet_op; refine hK_ _ ?_; clear hK_ K_)
          (refine tree_quiet (by simp only [List.getElem?_toArray, List.getElem?_cons_succ, List.getElem?_cons_zero]; rfl) (by rfl) (by rfl) (fun K_ hK_ => ?_); go_big_quiet_op; refine hK_ _ ?_; clear hK_ K_)
          refine tree_skip (by simp only [List.getElem?_toArray, List.getElem?_cons_succ, List.getElem?_cons_zero]; rfl) (by rfl) ?_; dsimp only [Act.put]; simp only [List.setIfInBounds_toArray, List.set_cons_succ, List.set_cons_zero]
          refine tree_skip (by simp only [List.getElem?_toArray, List.getElem?_cons_succ, List.getElem?_cons_zero]; rfl) (by rfl) ?_; dsimp only [Act.put]; simp only [List.setIfInBounds_toArray, List.set_cons_succ, List.set_cons_zero]
          refine tree_skip (by simp only [List.getElem?_toArray, List.getElem?_cons_succ, List.getElem?_cons_zero]; rfl) (by rfl) ?_; dsimp only [Act.put]; simp only [List.setIfInBounds_toArray, List.set_cons_succ, List.set_cons_zero]
          refine tree_skip (by simp only [List.getElem?_toArray, List.getElem?_cons_succ, List.getElem?_cons_zero]; rfl) (by rfl) ?_; dsimp only [Act.put]; simp only [List.setIfInBounds_toArray, List.set_cons_succ, List.set_cons_zero]
          refine tree_skip (by simp only [List.getElem?_toArray, List.getElem?_cons_succ, List.getElem?_cons_zero]; rfl) (by rfl) ?_; dsimp only [Act.put]; simp only [List.setIfInBounds_toArray, List.set_cons_succ, List.set_cons_zero]
          refine tree_skip (by simp only [List.getElem?_toArray, List.getElem?_cons_succ, List.getElem?_cons_zero]; rfl) (by rfl) ?_; dsimp only [Act.put]; simp only [List.setIfInBounds_toArray, List.set_cons_succ, List.set_cons_zero]
          refine tree_skip (by simp only [List.getElem?_toArray, List.getElem?_cons_succ, List.getElem?_cons_zero]; rfl) (by rfl) ?_; dsimp only [Act.put]; simp only [List.setIfInBounds_toArray, List.set_cons_succ, List.set_cons_zero]
          refine tree_skip (by simp only [List.getElem?_toArray, List.getElem?_cons_succ, List.getElem?_cons_zero]; rfl) (by rfl) ?_; dsimp only [Act.put]; simp only [List.setIfInBounds_toArray, List.set_cons_succ, List.set_cons_zero]
          refine tree_skip (by simp only [List.getElem?_toArray, List.getElem?_cons_succ, List.getElem?_cons_zero]; rfl) (by rfl) ?_; dsimp only [Act.put]; simp only [List.setIfInBounds_toArray, List.set_cons_succ, List.set_cons_zero]
          (refine tree_quiet (by simp only [List.getElem?_toArray, List.getElem?_cons_succ, List.getElem?_cons_zero]; rfl) (by rfl) (by rfl) (fun K_ hK_ => ?_); go_big_quiet_op; refine hK_ _ ?_; clear hK_ K_)
          (refine tree_quiet (by simp only [List.getElem?_toArray, List.getElem?_cons_succ, List.getElem?_cons_zero]; rfl) (by rfl) (by rfl) (fun K_ hK_ => ?_); go_big_quiet_op; refine hK_ _ ?_; clear hK_ K_)
          (refine tree_quiet (by simp only [List.getElem?_toArray, List.getElem?_cons_succ, List.getElem?_cons_zero]; rfl) (by rfl) (by rfl) (fun K_ hK_ => ?_); go_big_quiet_op; refine hK_ _ ?_; clear hK_ K_)
          refine tree_nil ?_
          clear hG_
          go_wp2_with fail
          go_roundw
          case rel => exact ⟨k + 1, true, hlt, by go_num, rfl, ⟨fun _ => HN.out, fun _ => rfl⟩, HLN.out, HBU.out.drew⟩
          case measure => simp [intOf]; omega
        · obtain ⟨k', rfl⟩ : ∃ k', k = k' + 1 := ⟨k - 1, by omega⟩
          obtain ⟨q, hq⟩ : ∃ q, ps[k']? = some q := ⟨_, List.getElem?_eq_getElem (by rw [HL.out]; omega)⟩
          obtain ⟨q0, _, _⟩ := pl_cells (HH.out.below HBR.out) hq
          have hq1 := (HPS.out q (List.mem_of_getElem? hq)).1
          have HN := Lib.hid (show decide (q.ty < p.ty) = true ↔ RiseK ps (k' + 1 + 1) from by
            rw [riseK_next hq hp, decide_eq_true_eq]
            exact ⟨fun h => ⟨HBB.out.1 rfl, h⟩, fun h => h.2⟩)
          have hk1 : (((k' + 1 : Nat) : Int) == 0) = false := by rw [beq_eq_false_iff_ne]; omega
          have hk2 : ((k' + 1 : Nat) : Int) - 1 = (k' : Int) := by omega
          clear hp hq
          generalize p.ss.length = m at *
          generalize p.ty = ty at *
          generalize p.fl = fl at *
          generalize q.ty = qt at *
          go_wp2_with fail
          obtain ⟨U, hU⟩ : ∃ U, U = wr.alloc (Obj.cells #[.int .u16 (ty : Nat), .int .u16 (fl : Nat), .slice p.a m p.c] 27) := ⟨_, rfl⟩
          have HBU := Lib.hid (show Below w1.heap.size w1 U from by rw [hU]; exact balloc HBR1.out _)
          have u0 : U.cell? ⟨bE, oE + k' * 3, none⟩ = some (.int .u16 (qt : Nat)) := by rw [hU]; exact ((balloc (brefl wr) _).cell (p := ⟨bE, oE + k' * 3, none⟩) hbE).trans q0
          have u6 : U.cell? ⟨wr.heap.size, 0, none⟩ = some (.int .u16 (ty : Nat)) := by rw [hU, hAC, if_pos rfl]; rfl
          have lU := cell_lt u0
          have l6 := cell_lt u6
          simp only at lU l6
          rw [← hU]
          clear hU e0 e1 e2 q0
          refine wp_region_tree (.step 0 (.step 1 (.step 2 (.step 3 (.step 4 (.step 5 (.step 6 (.step 7 (.step 8 (.step 9 (.step 10 (.step 11 (.step 12 (.step 13 (.step 14 (.step 15 (.step 16 .nil))))))))))))))))) (by kernel_rfl) (by kernel_rfl) (by kernel_rfl) (by kernel_rfl) (by intro _ _ d_ _ _ h_; cases d_ <;> first | exact h_ | (dsimp +zetaDelta only at h_ ⊢; exact h_)) (fun w' => ∃ p : Wld U [], w' = p.val) (wld_start _ _) ?_
          have hG_ := @wldC U
          (refine tree_quiet (by simp only [List.getElem?_toArray, List.getElem?_cons_succ, List.getElem?_cons_zero]; rfl) (by rfl) (by rfl) (fun K_ hK_ => ?_); go_big_quiet_op; refine hK_ _ ?_; clear hK_ K_)
          (refine tree_quiet (by simp only [List.getElem?_toArray, List.getElem?_cons_succ, List.getElem?_cons_zero]; rfl) (by rfl) (by rfl) (fun K_ hK_ => ?_); go_big_quiet_op; refine hK_ _ ?_; clear hK_ K_)
          (refine tree_quiet (by simp only [List.getElem?_toArray, List.getElem?_cons_succ, List.getElem?_cons_zero]; rfl) (by rfl) (by rfl) (fun K_ hK_ => ?_); go_big_quiet_op; refine hK_ _ ?_; clear hK_ K_)
          (refine tree_quiet (by simp only [List.getElem?_toArray, List.getElem?_cons_succ, List.getElem?_cons_zero]; rfl) (by rfl) (by rfl) (fun K_ hK_ => ?_); go_big_quiet_op; refine hK_ _ ?_; clear hK_ K_)
          (refine tree_quiet (by simp only [List.getElem?_toArray, List.getElem?_cons_succ, List.getElem?_cons_zero]; rfl) (by rfl) (by rfl) (fun K_ hK_ => ?_); go_big_quiet_op; refine hK_ _ ?_; clear hK_ K_)
          (refine tree_quiet (by simp only [List.getElem?_toArray, List.getElem?_cons_succ, List.getElem?_cons_zero]; rfl) (by rfl) (by rfl) (fun K_ hK_ => ?_); go_big_quiet_op; refine hK_ _ ?_; clear hK_ K_)
          (refine tree_quiet (by simp only [List.getElem?_toArray, List.getElem?_cons_succ, List.getElem?_cons_zero]; rfl) (by rfl) (by rfl) (fun K_ hK_ => ?_); go_big_quiet_op; refine hK_ _ ?_; clear hK_ K_)
          (refine tree_quiet (by simp only [List.getElem?_toArray, List.getElem?_cons_succ, List.getElem?_cons_zero]; rfl) (by rfl) (by rfl) (fun K_ hK_ => ?_); go_big_quiet_op; refine hK_ _ ?_; clear hK_ K_)
          (refine tree_quiet (by simp only [List.getElem?_toArray, List.getElem?_cons_succ, List.getElem?_cons_zero]; rfl) (by rfl) (by rfl) (fun K_ hK_ => ?_); go_big_quiet_op; refine hK_ _ ?_; clear hK_ K_)
          (refine tree_quiet (by simp only [List.getElem?_toArray, List.getElem?_cons_succ, List.getElem?_cons_zero]; rfl) (by rfl) (by rfl) (fun K_ hK_ => ?_); go_big_quiet_op; refine hK_ _ ?_; clear hK_ K_)
          (refine tree_quiet (by simp only [List.getElem?_toArray, List.getElem?_cons_succ, List.getElem?_cons_zero]; rfl) (by rfl) (by rfl) (fun K_ hK_ => ?_); go_big_quiet_op; refine hK_ _ ?_; clear hK_ K_)
          (refine tree_quiet (by simp only [List.getElem?_toArray, List.getElem?_cons_succ, List.getElem?_cons_zero]; rfl) (by rfl) (by rfl) (fun K_ hK_ => ?_); go_big_quiet_op; refine hK_ _ ?_; clear hK_ K_)
          (refine tree_quiet (by simp only [List.getElem?_toArray, List.getElem?_cons_succ, List.getElem?_cons_zero]; rfl) (by rfl) (by rfl) (fun K_ hK_ => ?_); go_big_quiet_op; refine hK_ _ ?_; clear hK_ K_)
          (refine tree_quiet (by simp only [List.getElem?_toArray, List.getElem?_cons_succ, List.getElem?_cons_zero]; rfl) (by rfl) (by rfl) (fun K_ hK_ => ?_); go_big_quiet_op; refine hK_ _ ?_; clear hK_ K_)
          (refine tree_quiet (by simp only [List.getElem?_toArray, List.getElem?_cons_succ, List.getElem?_cons_zero]; rfl) (by rfl) (by rfl) (fun K_ hK_ => ?_); go_big_quiet_op; refine hK_ _ ?_; clear hK_ K_)
          (refine tree_quiet (by simp only [List.getElem?_toArray, List.getElem?_cons_succ, List.getElem?_cons_zero]; rfl) (by rfl) (by rfl) (fun K_ hK_ => ?_); go_big_quiet_op; refine hK_ _ ?_; clear hK_ K_)
          (refine tree_quiet (by simp only [List.getElem?_toArray, List.getElem?_cons_succ, List.getElem?_cons_zero]; rfl) (by rfl) (by rfl) (fun K_ hK_ => ?_); go_big_quiet_op; refine hK_ _ ?_; clear hK_ K_)
          refine tree_nil ?_
          clear hG_
          go_wp2_with fail
          go_roundw
          case rel => exact ⟨k' + 1 + 1, decide (qt < ty), hlt, by go_num, by first | rfl | (congr 1; simp), HN.out, HLN.out, HBU.out.drew⟩
          case measure => simp [intOf]; omega
    · obtain rfl : n = k := by omega
      have hall : ps.take n = ps := List.take_of_length_le (by rw [HL.out]; exact Nat.le_refl _)
      have hlen := HLEN.out
      rw [hall] at hlen
      have HPB := Lib.hid (show PlB ps from ⟨by rw [HL.out]; omega, fun p hp => ⟨(HPS.out p hp).1, (HPS.out p hp).2.1, hlen p hp, (HPS.out p hp).2.2.1⟩⟩)
      have HW := Lib.hid (write8_any la n lc ps wr (HH.out.below HBR.out) HL.out ⟨by rw [HL.out]; omega, fun p hp => ⟨(HPS.out p hp).1, (HPS.out p hp).2.1, hlen p hp, (HPS.out p hp).2.2.1, (HPS.out p hp).2.2.2.below HBR.out⟩⟩)
      have HRF := Lib.hid (show b = true ↔ RiseF ps from by rw [HBB.out, ← HL.out]; exact riseK_all)
      have HOKI := Lib.hid (write_ok HPB.out)
      have HNN := Lib.hid (show num (writeF ps) 4 2 = n from by rw [writeF_n ps (by rw [HL.out]; omega), HL.out])
      clear hall hlen HLEN HBB HBR1 HB1
      go_wp2_with fail
      refine HW.out.mono ?_
      rintro e w3 ⟨a3, c3, rfl, ho3, hb3⟩
      obtain ⟨_, _, he, k1, k2, k3⟩ := owns_slice ho3
      cases he
      have HB3 := Lib.hid (HBR.out.trans (hb3.mono HBR.out.size))
      have HR := Lib.hid (fread_any a3 (writeF ps).length c3 (writeF ps) w3 (has_of_owns ho3) rfl k1 k2)
      clear ho3 hb3 k1 k2 k3 HW
      obtain ⟨L, hL⟩ : ∃ L, L = (writeF ps).length := ⟨_, rfl⟩
      rw [← hL] at HR ⊢
      clear hL
      go_wp2_with fail
      refine HR.out.mono ?_
      rintro e w4 ⟨(⟨g, hs, hok, rfl, hm⟩ | ⟨hno, rfl⟩), hb4⟩
      case inr =>
        have HB4 := Lib.hid (HB3.out.trans (hb4.mono HB3.out.size))
        obtain rfl : b = false := by
          cases b with
          | false => rfl
          | true => exact absurd (HOKI.out.2 (HRF.out.1 rfl)) hno
        clear hb4 hno HR
        go_wp2_with fail
        go_ret
        exact ⟨rfl, HB4.out⟩
      have HB4 := Lib.hid (HB3.out.trans (hb4.mono HB3.out.size))
      obtain rfl : b = true := HRF.out.2 (HOKI.out.1 hok)
      have HM := Lib.hid hm
      rw [HNN.out]
      clear hb4 hok HR hm
      go_wp2_with fail
      go_loopw [66] (fun i wv => ∃ j : Nat, j ≤ n ∧ i = .int .i64 (j : Nat) ∧ Below w4.heap.size w4 wv) (fun i _ => n - (intOf i).toNat)
      case atStart => exact ⟨0, Nat.zero_le _, rfl, Below.refl _ _⟩
      case round =>
        rename World => wv
        obtain ⟨j, hj, rfl, hb⟩ := hrel
        have HBV := Lib.hid hb
        have HBW := Lib.hid (HB4.out.trans (hb.mono HB4.out.size))
        have hmv := HM.out.below hb
        clear hb
        by_cases hlt : j < n
        · obtain ⟨p, hp⟩ : ∃ p, ps[j]? = some p := ⟨_, List.getElem?_eq_getElem (by rw [HL.out]; exact hlt)⟩
          obtain ⟨bE, oE, rfl, hbE⟩ := pl_addr (HH.out.below HBW.out) hp
          obtain ⟨e0, e1, e2⟩ := pl_cells (HH.out.below HBW.out) hp
          obtain ⟨p1, p2, p3, p4⟩ := HPS.out p (List.mem_of_getElem? hp)
          have p5 := (HPB.out.each p (List.mem_of_getElem? hp)).2.2.1
          obtain ⟨h, hh⟩ : ∃ h, hs[j]? = some h := ⟨_, List.getElem?_eq_getElem (by rw [HM.out.len, HNN.out]; exact hlt)⟩
          have hrow := hmv.row
          have hset := hmv.is.each j h hh
          rw [HNN.out] at hrow
          have hg := ftV_get (writeF ps) hs 0 j h hh
          rw [Nat.zero_add] at hg
          unfold ftC at hg
          rw [w_ty HPB.out hp, w_fl HPB.out hp, w_many HPB.out hp, w_sb HPB.out hp] at hg
          rw [w_many HPB.out hp, w_sb HPB.out hp] at hset
          have b15 := bt15 p.fl p2
          have f0 : wv.cell? ⟨g, j * 4, none⟩ = some (.int .i64 (p.ty : Nat)) := own_at hrow (hg 0 (by omega))
          have f1 : wv.cell? ⟨g, j * 4 + 1, none⟩ = some (.bool (bt p.fl 15)) := own_at hrow (hg 1 (by omega))
          have f3 : wv.cell? ⟨g, j * 4 + 3, none⟩ = some (.slice (some ⟨h, 0, none⟩) p.ss.length p.ss.length) := own_at hrow (hg 3 (by omega))
          rw [b15] at f1
          obtain ⟨xb, hxb, hxi⟩ : ∃ xb : Bool, decide (32768 ≤ p.fl) = xb ∧ decide ((32768 : Int) ≤ (p.fl : Int)) = xb := ⟨_, rfl, by
            by_cases g : 32768 ≤ p.fl
            · rw [decide_eq_true g, decide_eq_true (by omega)]
            · rw [decide_eq_false g, decide_eq_false (by omega)]⟩
          rw [hxb] at f1
          have hwt : IntKind.i64.wrap (p.ty : Int) = (p.ty : Int) := IntWalk.i64_in _ (by omega)
          clear hxb
          have lg := cell_lt f0
          simp only at lg
          have HP4 := Lib.hid (fun W (hW : Below w.heap.size w W) => p4.below hW)
          have HSET := Lib.hid hset
          have HG := Lib.hid (fun (x s : Nat) (hx : p.ss[x]? = some s) => show (setV (setBy p.ss) p.ss.length)[x]? = some (.int .i64 (s : Nat)) from by
            rw [setV_get _ _ _ (List.getElem?_eq_some_iff.1 hx).1, setBy_num p.ss x s hx (p3 s (List.mem_of_getElem? hx))])
          have HP3 := Lib.hid p3
          clear hg hrow hset hmv hh b15 p3 p4 hp
          generalize p.ty = ty at *
          generalize p.fl = fl at *
          generalize p.a = pa at *
          generalize p.c = pc at *
          generalize p.ss = ss at *
          obtain ⟨m, hm⟩ : ∃ m, m = ss.length := ⟨_, rfl⟩
          rw [← hm] at HSET HG f3 e2 p5
          have HM2 := Lib.hid hm
          clear hm
          go_wp2_with fail
          obtain ⟨U, hU⟩ : ∃ U, U = wv.alloc (Obj.cells #[.int .u16 (ty : Nat), .int .u16 (fl : Nat), .slice pa m pc] 27) := ⟨_, rfl⟩
          have hbU : Below wv.heap.size wv U := by rw [hU]; exact balloc (brefl _) _
          have h6 : U.heap[wv.heap.size]? = some (.cells #[.int .u16 (ty : Nat), .int .u16 (fl : Nat), .slice pa m pc] 27 (0, 0)) := by rw [hU, heap_push, if_pos rfl]
          have u0 := (hbU.cell (p := ⟨g, j * 4, none⟩) lg).trans f0
          have u1 := (hbU.cell (p := ⟨g, j * 4 + 1, none⟩) lg).trans f1
          have u3 := (hbU.cell (p := ⟨g, j * 4 + 3, none⟩) lg).trans f3
          have q6 := fun o => cell_of_heap h6 o
          have l6 := (Array.getElem?_eq_some_iff.1 h6).1
          have lgU : g < U.heap.size := Nat.lt_of_lt_of_le lg hbU.size
          have HBU := Lib.hid (HBV.out.trans (hbU.mono HBV.out.size))
          have HSU := Lib.hid (owns_below HSET.out hbU (Nat.le_refl _))
          have H6 := Lib.hid h6
          rw [← hU]
          have HBUV := Lib.hid hbU
          clear hU hbU h6 e0 e1 e2 f0 f1 f3
          refine wp_region_tree (.step 0 (.step 1 (.step 2 (.step 3 (.step 4 (.step 5 (.step 6 (.step 7 (.step 8 (.step 9 (.step 10 (.step 11 (.step 12 (.step 13 (.step 14 (.step 15 (.step 16 (.step 17 (.step 18 (.step 19 (.step 20 (.step 21 (.step 22 (.step 23 (.step 24 (.step 25 (.step 26 (.step 27 (.step 28 (.step 29 (.step 30 (.step 31 .nil)))))))))))))))))))))))))))))))) (by kernel_rfl) (by kernel_rfl) (by kernel_rfl) (by kernel_rfl) (by intro _ _ d_ _ _ h_; cases d_ <;> first | exact h_ | (dsimp +zetaDelta only at h_ ⊢; exact h_)) (fun w' => ∃ p : Wld U [], w' = p.val) (wld_start _ _) ?_
          have hG_ := @wldC U
          (refine tree_quiet (by simp only [List.getElem?_toArray, List.getElem?_cons_succ, List.getElem?_cons_zero]; rfl) (by rfl) (by rfl) (fun K_ hK_ => ?_); go_big_quiet_op; refine hK_ _ ?_; clear hK_ K_)
          (refine tree_quiet (by simp only [List.getElem?_toArray, List.getElem?_cons_succ, List.getElem?_cons_zero]; rfl) (by rfl) (by rfl) (fun K_ hK_ => ?_); go_big_quiet_op; refine hK_ _ ?_; clear hK_ K_)
          (refine tree_quiet (by simp only [List.getElem?_toArray, List.getElem?_cons_succ, List.getElem?_cons_zero]; rfl) (by rfl) (by rfl) (fun K_ hK_ => ?_); go_big_quiet_op; refine hK_ _ ?_; clear hK_ K_)
          (refine tree_quiet (by simp only [List.getElem?_toArray, List.getElem?_cons_succ, List.getElem?_cons_zero]; rfl) (by rfl) (by rfl) (fun K_ hK_ => ?_); go_big_quiet_op; refine hK_ _ ?_; clear hK_ K_)
          (refine tree_quiet (by simp only [List.getElem?_toArray, List.getElem?_cons_succ, List.getElem?_cons_zero]; rfl) (by rfl) (by rfl) (fun K_ hK_ => ?_); go_big_quiet_op; refine hK_ _ ?_; clear hK_ K_)
          (refine tree_quiet (by simp only [List.getElem?_toArray, List.getElem?_cons_succ, List.getElem?_cons_zero]; rfl) (by rfl) (by rfl) (fun K_ hK_ => ?_); go_big_quiet_op; refine hK_ _ ?_; clear hK_ K_)
          (refine tree_quiet (by simp only [List.getElem?_toArray, List.getElem?_cons_succ, List.getElem?_cons_zero]; rfl) (by rfl) (by rfl) (fun K_ hK_ => ?_); go_big_quiet_op; refine hK_ _ ?_; clear hK_ K_)
          (refine tree_quiet (by simp only [List.getElem?_toArray, List.getElem?_cons_succ, List.getElem?_cons_zero]; rfl) (by rfl) (by rfl) (fun K_ hK_ => ?_); go_big_quiet_op; refine hK_ _ ?_; clear hK_ K_)
          (refine tree_quiet (by simp only [List.getElem?_toArray, List.getElem?_cons_succ, List.getElem?_cons_zero]; rfl) (by rfl) (by rfl) (fun K_ hK_ => ?_); go_big_quiet_op; refine hK_ _ ?_; clear hK_ K_)
          (refine tree_quiet (by simp only [List.getElem?_toArray, List.getElem?_cons_succ, List.getElem?_cons_zero]; rfl) (by rfl) (by rfl) (fun K_ hK_ => ?_); go_big_quiet_op; refine hK_ _ ?_; clear hK_ K_)
          (refine tree_quiet (by simp only [List.getElem?_toArray, List.getElem?_cons_succ, List.getElem?_cons_zero]; rfl) (by rfl) (by rfl) (fun K_ hK_ => ?_); go_big_quiet_op; refine hK_ _ ?_; clear hK_ K_)
          (refine tree_quiet (by simp only [List.getElem?_toArray, List.getElem?_cons_succ, List.getElem?_cons_zero]; rfl) (by rfl) (by rfl) (fun K_ hK_ => ?_); go_big_quiet_op; refine hK_ _ ?_; clear hK_ K_)
          (refine tree_quiet (by simp only [List.getElem?_toArray, List.getElem?_cons_succ, List.getElem?_cons_zero]; rfl) (by rfl) (by rfl) (fun K_ hK_ => ?_); go_big_quiet_op; refine hK_ _ ?_; clear hK_ K_)
          (refine tree_quiet (by simp only [List.getElem?_toArray, List.getElem?_cons_succ, List.getElem?_cons_zero]; rfl) (by rfl) (by rfl) (fun K_ hK_ => ?_); go_big_quiet_op; refine hK_ _ ?_; clear hK_ K_)
          (refine tree_quiet (by simp only [List.getElem?_toArray, List.getElem?_cons_succ, List.getElem?_cons_zero]; rfl) (by rfl) (by rfl) (fun K_ hK_ => ?_); go_big_quiet_op; refine hK_ _ ?_; clear hK_ K_)
          (refine tree_quiet (by simp only [List.getElem?_toArray, List.getElem?_cons_succ, List.getElem?_cons_zero]; rfl) (by rfl) (by rfl) (fun K_ hK_ => ?_); go_big_quiet_op; refine hK_ _ ?_; clear hK_ K_)
          (refine tree_quiet (by simp only [List.getElem?_toArray, List.getElem?_cons_succ, List.getElem?_cons_zero]; rfl) (by rfl) (by rfl) (fun K_ hK_ => ?_); go_big_quiet_op; refine hK_ _ ?_; clear hK_ K_)
          (refine tree_quiet (by simp only [List.getElem?_toArray, List.getElem?_cons_succ, List.getElem?_cons_zero]; rfl) (by rfl) (by rfl) (fun K_ hK_ => ?_); go_big_quiet_op; refine hK_ _ ?_; clear hK_ K_)
          (refine tree_quiet (by simp only [List.getElem?_toArray, List.getElem?_cons_succ, List.getElem?_cons_zero]; rfl) (by rfl) (by rfl) (fun K_ hK_ => ?_); go_big_quiet_op; refine hK_ _ ?_; clear hK_ K_)
          (refine tree_quiet (by simp only [List.getElem?_toArray, List.getElem?_cons_succ, List.getElem?_cons_zero]; rfl) (by rfl) (by rfl) (fun K_ hK_ => ?_); go_big_quiet_op; refine hK_ _ ?_; clear hK_ K_)
          (refine tree_quiet (by simp only [List.getElem?_toArray, List.getElem?_cons_succ, List.getElem?_cons_zero]; rfl) (by rfl) (by rfl) (fun K_ hK_ => ?_); go_big_quiet_op; refine hK_ _ ?_; clear hK_ K_)
          (refine tree_quiet (by simp only [List.getElem?_toArray, List.getElem?_cons_succ, List.getElem?_cons_zero]; rfl) (by rfl) (by rfl) (fun K_ hK_ => ?_); go_big_quiet_op; refine hK_ _ ?_; clear hK_ K_)
          (refine tree_quiet (by simp only [List.getElem?_toArray, List.getElem?_cons_succ, List.getElem?_cons_zero]; rfl) (by rfl) (by rfl) (fun K_ hK_ => ?_); go_big_quiet_op; refine hK_ _ ?_; clear hK_ K_)
          (refine tree_quiet (by simp only [List.getElem?_toArray, List.getElem?_cons_succ, List.getElem?_cons_zero]; rfl) (by rfl) (by rfl) (fun K_ hK_ => ?_); go_big_quiet_op; refine hK_ _ ?_; clear hK_ K_)
          (refine tree_quiet (by simp only [List.getElem?_toArray, List.getElem?_cons_succ, List.getElem?_cons_zero]; rfl) (by rfl) (by rfl) (fun K_ hK_ => ?_); go_big_quiet_op; refine hK_ _ ?_; clear hK_ K_)
          (refine tree_quiet (by simp only [List.getElem?_toArray, List.getElem?_cons_succ, List.getElem?_cons_zero]; rfl) (by rfl) (by rfl) (fun K_ hK_ => ?_); go_big_quiet_op; refine hK_ _ ?_; clear hK_ K_)
          (refine tree_quiet (by simp only [List.getElem?_toArray, List.getElem?_cons_succ, List.getElem?_cons_zero]; rfl) (by rfl) (by rfl) (fun K_ hK_ => ?_); go_big_quiet_op; refine hK_ _ ?_; clear hK_ K_)
          (refine tree_quiet (by simp only [List.getElem?_toArray, List.getElem?_cons_succ, List.getElem?_cons_zero]; rfl) (by rfl) (by rfl) (fun K_ hK_ => ?_); go_big_quiet_op; refine hK_ _ ?_; clear hK_ K_)
          (refine tree_quiet (by simp only [List.getElem?_toArray, List.getElem?_cons_succ, List.getElem?_cons_zero]; rfl) (by rfl) (by rfl) (fun K_ hK_ => ?_); go_big_quiet_op; refine hK_ _ ?_; clear hK_ K_)
          (refine tree_quiet (by simp only [List.getElem?_toArray, List.getElem?_cons_succ, List.getElem?_cons_zero]; rfl) (by rfl) (by rfl) (fun K_ hK_ => ?_); go_big_quiet_op; refine hK_ _ ?_; clear hK_ K_)
          (refine tree_quiet (by simp only [List.getElem?_toArray, List.getElem?_cons_succ, List.getElem?_cons_zero]; rfl) (by rfl) (by rfl) (fun K_ hK_ => ?_); go_big_quiet_op; refine hK_ _ ?_; clear hK_ K_)
          (refine tree_quiet (by simp only [List.getElem?_toArray, List.getElem?_cons_succ, List.getElem?_cons_zero]; rfl) (by rfl) (by rfl) (fun K_ hK_ => ?_); go_big_quiet_op; refine hK_ _ ?_; clear hK_ K_)
          refine tree_nil ?_
          clear hG_
          have HBUw := Lib.hid (HBW.out.trans (Below.mono (show Below wv.heap.size wv U from HBUV.out) HBW.out.size))
          go_wp2_with fail
          clear q6 u0 u1
          go_loopw [106] (fun i wu => ∃ x : Nat, x ≤ m ∧ i = .int .i64 (x : Nat) ∧ Below U.heap.size U wu) (fun i _ => m - (intOf i).toNat)
          case atStart => exact ⟨0, Nat.zero_le _, rfl, bdrew1 (brefl _)⟩
          case round =>
            rename World => wu
            obtain ⟨x, hx, rfl, hbx⟩ := hrel
            have HBX := Lib.hid hbx
            by_cases hltx : x < m
            · obtain ⟨s, hs⟩ : ∃ s, ss[x]? = some s := ⟨_, List.getElem?_eq_getElem (by rw [← HM2.out]; exact hltx)⟩
              have hs6 := HP3.out s (List.mem_of_getElem? hs)
              obtain ⟨pp, hpp, hcc⟩ := (HP4.out wu (HBUw.out.trans (hbx.mono HBUw.out.size))) x (.int .u16 (s : Nat)) (by simp [n16V, hs])
              subst hpp
              have v3 := (hbx.cell (p := ⟨g, j * 4 + 3, none⟩) lgU).trans u3
              have vs := own_at (owns_below HSU.out hbx (Nat.le_refl _)) (HG.out x s hs)
              have lg3 := cell_lt v3
              have lgs := cell_lt vs
              simp only at lg3 lgs
              have h6u := (hbx.block _ l6).trans H6.out
              have q6 := fun o => cell_of_heap h6u o
              have l6u := (Array.getElem?_eq_some_iff.1 h6u).1
              clear hbx hs h6u
              go_wp2_with fail
              go_roundw
              case rel => exact ⟨x + 1, hltx, by go_num, HBX.out⟩
              case measure => simp [intOf]; omega
            · obtain rfl : m = x := by omega
              have HBO := Lib.hid (HBU.out.trans (hbx.mono HBU.out.size))
              clear hbx
              go_wp2_with fail
              go_roundw
              case rel => exact ⟨j + 1, hlt, by go_num, HBO.out⟩
              case measure => simp [intOf]; omega
        · obtain rfl : n = j := by omega
          go_wp2_with fail
          go_ret
          exact ⟨rfl, HBW.out⟩

open Go.ChangeShapes Go.WideShapes Go.ChangeAt Go.RowKit
open Go.ChangeMaps (open_string shut_string)

set_option maxRecDepth 100000 in
theorem featBack_walks (H : Type) (enc : TypeId × Value → H) : Walks H enc 3 [22] := by
  intro W base args ds p hval hA _
  obtain ⟨v0, vs0, d0, ds0, p0, q0, hargs, rfl, rfl, h0, r0⟩ := trodAll_cons hA
  obtain ⟨rfl, rfl, rfl⟩ := trodAll_nil r0
  obtain rfl : args = #[v0] := by cases args; simp_all
  obtain ⟨a0, n0, c0, ps, rfl, e0, f0, g0, j0, k0⟩ := open_plans8 (hval 0 22 v0 rfl rfl) h0
  exact featBack_walk a0 n0 c0 ps W e0 f0 k0 (Nat.le_trans g0 j0)

set_option maxRecDepth 100000 in
theorem featBack_lifted (os : Os) (started : os.Started) (H : Type) (enc : TypeId × Value → H) :
    ReturnsInHanded {} Try.checked os 3 .any (Rows.featBackSpec.pre6 enc Try.prog Try.f3 Rows.featBackRow.domain false) (Rows.featBackSpec.post enc Try.prog Try.f3 false true false false) :=
  lift_law (s := Rows.featBackSpec) (fn := Try.f3) started (by kernel_rfl) Try.func3
    (ChangeSpec.witness6 (enc := enc) (C := Try.checked) false ⟨#[], #[.slice none 0 0], []⟩ 8 (by kernel_rfl) (by kernel_rfl) (by kernel_rfl) (by kernel_rfl))
    rfl rfl (fun ds h => by match ds, h with | [d0], _ => rfl) (by intro t ht; simp [Try.params3] at ht; first | (subst ht; exact ⟨by kernel_rfl, of_decide_eq_true (by kernel_rfl)⟩) | (obtain rfl | rfl := ht <;> exact ⟨by kernel_rfl, of_decide_eq_true (by kernel_rfl)⟩) | (obtain rfl | rfl | rfl := ht <;> exact ⟨by kernel_rfl, of_decide_eq_true (by kernel_rfl)⟩) | (obtain rfl | rfl | rfl | rfl := ht <;> exact ⟨by kernel_rfl, of_decide_eq_true (by kernel_rfl)⟩))
    (by rw [Try.params3]; exact featBack_walks H enc)
theorem featBack_over : Rows.featBackRow.holds Try.pinned (OpenSpec.ofChange Rows.featBackSpec) :=
  OpenClaim.holds_of_wide 3 Try.f3 rfl rfl rfl rfl rfl rfl rfl ⟨rfl, rfl, rfl, rfl, rfl⟩ rfl rfl rfl rfl rfl (by kernel_rfl) Try.func3 (by kernel_rfl)
    (of_decide_eq_true (by kernel_rfl)) (by unfold Func.isWrapper; first | (rw [if_pos (by decide +kernel)]; kernel_rfl) | (rw [if_neg (by decide +kernel)]; exact ⟨rfl, rfl⟩))
    (fun os started H enc _ => featBack_lifted os started H enc)
theorem featBack_proved : Rows.FeatBackSaid := featBack_over
#print axioms featBack_proved
end Go.Proofs.Ytfnghinefbmlmaa
