/- Joined from: DRef RRef. -/
import Derived.Test.YtlhnfpkenlenjaaDoorJ15
import Derived.Test.YtlhnfpkenlenjaaDoorJ20
import Derived.Test.YtlhnfpkenlenjaaDoorJ17
import Derived.Test.YtlhnfpkenlenjaaDoorJ18
import Derived.Test.YtlhnfpkenlenjaaDoorJ19
section

/- The document's Begin, Next and Go: where a machine is on its way. Conditions: a machine in memory; sizes. -/
namespace Go.Proofs.YtlhnfpkenlenjaaDoor
open Go.RowKit Go.Lib

/-- Where a machine is, as a value. -/
def wayA (s z st re most : Nat) (over : Bool) (code : Nat) : Array Value := #[.int .i64 (s : Nat), .int .i64 (z : Nat), .int .i64 (st : Nat), .int .i64 (re : Nat), .int .i64 (most : Nat), .bool over, .int .i64 (code : Nat)]
theorem refbegin_any (n : Nat) (w : World) (hn : n ≤ 1000000) :
    Calls Tryd.prog 35 #[.int .i64 (n : Nat)] w fun e w' => e = .returned (.agg (wayA 0 0 0 0 (2 * n + 128) false 0)) ∧ Below w.heap.size w w' := by
  have hAC := allocC
  have hAF := allocF
  go_enter Tryd.func35, Tryd.ntmps35
  go_wp2_with fail
  refine bodyPost_ret (v := .agg #[.int .i64 0, .int .i64 0, .int .i64 0, .int .i64 0, .int .i64 (2 * (n : Int) + 128), .bool false, .int .i64 0]) (by simp [results, Tryd.results35, go_sem, hAC, hAF]) rfl ?_
  exact ⟨rfl, blw⟩
set_option maxRecDepth 100000 in
set_option maxHeartbeats 3200000 in
theorem refnext_any (a : Option Addr) (n c : Nat) (bs : List UInt8) (glyphs k : Nat) (rs : List RP) (S : Nat) (a' : Option Addr) (c' : Nat) (s z st re most : Nat) (al : Option Addr) (nl cl : Nat) (l : List (Int × Int)) (w : World) (h : MRf a n c bs glyphs k rs S a' w) (hl : Has w al (gv l)) (hln : l.length = nl) (hids : ∀ p ∈ l, -9223372036854775808 ≤ p.1 ∧ p.1 ≤ 9223372036854775807) (hs : s < S) (hz : z ≤ 1000000000) :
    Calls Tryd.prog 36 #[.agg (mrefV a n c bs k rs S a' c'), .agg (wayA s z st re most false 0), .slice al nl cl] w fun e w' => e = .returned (.tuple #[entV4 (enM bs k s (clD bs rs l z)), .bool true]) ∧ Below w.heap.size w w' := by
  have hAC := allocC
  have hAF := allocF
  have HM := Lib.hid h
  have HH := Lib.hid hl
  have hC := clD_lt bs rs l z h.ok.cls.1
  have HST := Lib.hid (fun W (hW : Below w.heap.size w W) => show Calls Tryd.prog 53 #[.agg (mrefV a n c bs k rs S a' c'), .int .i64 (s : Nat), .int .i64 (clD bs rs l z : Nat)] W fun e w' => e = .returned (.tuple #[entV4 (enM bs k s (clD bs rs l z)), .bool true]) ∧ Below W.heap.size W w' from (HM.out.below hW).step c' s (clD bs rs l z) hs hC)
  unfold mrefV mrefA at *
  cases hg : l[z]? with
  | none =>
    have d0 : decide ((z : Int) < (nl : Int)) = false := by have := List.getElem?_eq_none_iff.1 hg; simp; omega
    have d1 : decide (z < nl) = false := by have := List.getElem?_eq_none_iff.1 hg; simp; omega
    rw [show clD bs rs l z = 0 by rw [clD, hg]] at HST ⊢
    rw [show ((0 : Nat) : Int) = 0 from rfl] at HST
    generalize enM bs k s 0 = E at *
    obtain ⟨e0, e1, e2, e3⟩ := E
    simp only [entV4] at HST ⊢
    clear h hl hids hC hg HM HH
    generalize num bs 0 4 = P0 at *
    generalize num bs 4 4 = P4 at *
    generalize num bs 8 4 = P8 at *
    generalize num bs 12 4 = P12 at *
    generalize needE bs S = NE at *
    generalize adv a c P4 = A4 at *
    generalize rs.length = L at *
    unfold wayA
    go_enter Tryd.func36, Tryd.ntmps36
    go_wp2_with fail
    obtain ⟨V, hV⟩ : ∃ V, V = ((w.alloc (Obj.cells #[.slice a n c, .int .i64 (P0 : Nat), .int .i64 (P8 : Nat), .int .i64 (P12 : Nat), .int .i64 (S : Nat), .int .i64 (NE : Nat), .int .i64 (k : Nat), .slice A4 (n - P4) (c - P4), .slice a' L c'] 39)).alloc (Obj.cells #[.int .i64 (s : Nat), .int .i64 (z : Nat), .int .i64 (st : Nat), .int .i64 (re : Nat), .int .i64 (most : Nat), .bool false, .int .i64 0] 88)).alloc (Obj.cells #[.int .i64 0, .int .i64 0, .int .i64 0, .int .i64 0] 55) := ⟨_, rfl⟩
    have hbV : Below w.heap.size w V := by rw [hV]; exact balloc (balloc (balloc (brefl w) _) _) _
    have hzV : V.heap.size = w.heap.size + 1 + 1 + 1 := by rw [hV]; simp
    have x3 : V.heap[w.heap.size]? = some (.cells #[.slice a n c, .int .i64 (P0 : Nat), .int .i64 (P8 : Nat), .int .i64 (P12 : Nat), .int .i64 (S : Nat), .int .i64 (NE : Nat), .int .i64 (k : Nat), .slice A4 (n - P4) (c - P4), .slice a' L c'] 39 (0, 0)) := by
      rw [hV, heap_push, if_neg (by simp only [World.size_alloc]; omega), heap_push, if_neg (by simp only [World.size_alloc]; omega), heap_push, if_pos rfl]
    have x4 : V.heap[w.heap.size + 1]? = some (.cells #[.int .i64 (s : Nat), .int .i64 (z : Nat), .int .i64 (st : Nat), .int .i64 (re : Nat), .int .i64 (most : Nat), .bool false, .int .i64 0] 88 (0, 0)) := by
      rw [hV, heap_push, if_neg (by simp only [World.size_alloc]; omega), heap_push, if_pos (by simp only [World.size_alloc])]
    have x6 : V.heap[w.heap.size + 1 + 1]? = some (.cells #[.int .i64 0, .int .i64 0, .int .i64 0, .int .i64 0] 55 (0, 0)) := by
      rw [hV, heap_push, if_pos (by simp only [World.size_alloc])]
    rw [← hV]
    have X3 := Lib.hid x3
    have X4 := Lib.hid x4
    have X6 := Lib.hid x6
    have q3 := fun o => cell_of_heap x3 o
    have q4 := fun o => cell_of_heap x4 o
    have HB := Lib.hid hbV
    have HB1 := Lib.hid hbV
    have Y6 := Lib.hid x6
    have l6 := (Array.getElem?_eq_some_iff.1 x6).1
    clear hV x3 x4 x6 hbV
    refine (HST.out V HB1.out).mono ?_
    rintro e w2 ⟨rfl, hb2⟩
    have hb12 := hb2
    have p6 := (hb12.block _ l6).trans Y6.out
    have q6 := (fun o => cell_of_heap p6 o)
    have f6 := (fun o => froz_of_heap p6 o)
    have l6' := (Array.getElem?_eq_some_iff.1 p6).1
    have HB2 := Lib.hid (HB1.out.trans (hb12.mono HB1.out.size))
    have hn6 : ¬ w2.heap.size = w.heap.size + 1 + 1 := (by omega)
    clear hb2 hb12 p6
    go_wp2_with fail
    refine bodyPost_ret (v := .tuple #[.agg #[.int .i64 (e0 : Nat), .int .i64 (e1 : Nat), .int .i64 (e2 : Nat), .int .i64 (e3 : Nat)], .bool true]) (by simp [results, Tryd.results36, go_sem, hAC, hAF, q6, f6, l6']) rfl ?_
    exact ⟨rfl, by have h0 := HB2.out; have h0z := h0.size; exact blw⟩
  | some p =>
    have hlt := (List.getElem?_eq_some_iff.1 hg).1
    have hzn : z < nl := by omega
    have d0 : decide ((z : Int) < (nl : Int)) = true := by simp; omega
    have d1 : decide (z < nl) = true := by simp; omega
    have d2 : decide (nl ≤ z) = false := by simp; omega
    have hp := hids p (List.mem_of_getElem? hg)
    obtain ⟨gi, oi, q, rfl, hgi, hq, hc1, hc2⟩ := gv_at HH.out (k := z) hlt
    obtain rfl : p = q := by rw [hg] at hq; injection hq
    have HCL := Lib.hid (fun W (hW : Below w.heap.size w W) => (HM.out.below hW).cls c' p.1 hp)
    rw [show clD bs rs l z = classM bs rs p.1 by rw [clD, hg]] at HST ⊢
    obtain ⟨p1, p2⟩ := p
    simp only at hc1 hc2 HCL HST ⊢
    generalize classM bs rs p1 = C at *
    generalize enM bs k s C = E at *
    obtain ⟨e0, e1, e2, e3⟩ := E
    simp only [entV4] at HST ⊢
    unfold mrefV mrefA at HCL
    clear h hl hids hC hg hq HM HH hlt hp
    generalize num bs 0 4 = P0 at *
    generalize num bs 4 4 = P4 at *
    generalize num bs 8 4 = P8 at *
    generalize num bs 12 4 = P12 at *
    generalize needE bs S = NE at *
    generalize adv a c P4 = A4 at *
    generalize rs.length = L at *
    unfold wayA
    go_enter Tryd.func36, Tryd.ntmps36
    go_wp2_with fail
    obtain ⟨V, hV⟩ : ∃ V, V = ((w.alloc (Obj.cells #[.slice a n c, .int .i64 (P0 : Nat), .int .i64 (P8 : Nat), .int .i64 (P12 : Nat), .int .i64 (S : Nat), .int .i64 (NE : Nat), .int .i64 (k : Nat), .slice A4 (n - P4) (c - P4), .slice a' L c'] 39)).alloc (Obj.cells #[.int .i64 (s : Nat), .int .i64 (z : Nat), .int .i64 (st : Nat), .int .i64 (re : Nat), .int .i64 (most : Nat), .bool false, .int .i64 0] 88)).alloc (Obj.cells #[.int .i64 0, .int .i64 0, .int .i64 0, .int .i64 0] 55) := ⟨_, rfl⟩
    have hbV : Below w.heap.size w V := by rw [hV]; exact balloc (balloc (balloc (brefl w) _) _) _
    have hzV : V.heap.size = w.heap.size + 1 + 1 + 1 := by rw [hV]; simp
    have x3 : V.heap[w.heap.size]? = some (.cells #[.slice a n c, .int .i64 (P0 : Nat), .int .i64 (P8 : Nat), .int .i64 (P12 : Nat), .int .i64 (S : Nat), .int .i64 (NE : Nat), .int .i64 (k : Nat), .slice A4 (n - P4) (c - P4), .slice a' L c'] 39 (0, 0)) := by
      rw [hV, heap_push, if_neg (by simp only [World.size_alloc]; omega), heap_push, if_neg (by simp only [World.size_alloc]; omega), heap_push, if_pos rfl]
    have x4 : V.heap[w.heap.size + 1]? = some (.cells #[.int .i64 (s : Nat), .int .i64 (z : Nat), .int .i64 (st : Nat), .int .i64 (re : Nat), .int .i64 (most : Nat), .bool false, .int .i64 0] 88 (0, 0)) := by
      rw [hV, heap_push, if_neg (by simp only [World.size_alloc]; omega), heap_push, if_pos (by simp only [World.size_alloc])]
    have x6 : V.heap[w.heap.size + 1 + 1]? = some (.cells #[.int .i64 0, .int .i64 0, .int .i64 0, .int .i64 0] 55 (0, 0)) := by
      rw [hV, heap_push, if_pos (by simp only [World.size_alloc])]
    rw [← hV]
    have X3 := Lib.hid x3
    have X4 := Lib.hid x4
    have X6 := Lib.hid x6
    have q3 := fun o => cell_of_heap x3 o
    have q4 := fun o => cell_of_heap x4 o
    have HB := Lib.hid hbV
    have hc1' := (hbV.cell (p := ⟨gi, oi + z * 2, none⟩) hgi).trans hc1
    have hgV : gi < V.heap.size := by omega
    clear hV hc1 hc2 x3 x4 x6 hbV
    refine wp_region_tree (.step 0 (.step 1 (.step 2 (.step 3 (.step 4 (.step 5 (.step 6 (.step 7 (.step 8 .nil))))))))) (by kernel_rfl) (by kernel_rfl) (by kernel_rfl) (by kernel_rfl) (by intro _ _ d_ _ _ h_; cases d_ <;> first | exact h_ | (dsimp +zetaDelta only at h_ ⊢; exact h_)) (fun w' => ∃ p : Wld V [], w' = p.val) (wld_start _ _) ?_
    have hG_ := @wldC V
    (refine tree_quiet (by simp only [List.getElem?_toArray, List.getElem?_cons_succ, List.getElem?_cons_zero]; rfl) (by rfl) (by rfl) (fun K_ hK_ => ?_); go_big_quiet_op; refine hK_ _ ?_; clear hK_ K_)
    (refine tree_quiet (by simp only [List.getElem?_toArray, List.getElem?_cons_succ, List.getElem?_cons_zero]; rfl) (by rfl) (by rfl) (fun K_ hK_ => ?_); go_big_quiet_op; refine hK_ _ ?_; clear hK_ K_)
    (refine tree_quiet (by simp only [List.getElem?_toArray, List.getElem?_cons_succ, List.getElem?_cons_zero]; rfl) (by rfl) (by rfl) (fun K_ hK_ => ?_); go_big_quiet_op; refine hK_ _ ?_; clear hK_ K_)
    (refine tree_quiet (by simp only [List.getElem?_toArray, List.getElem?_cons_succ, List.getElem?_cons_zero]; rfl) (by rfl) (by rfl) (fun K_ hK_ => ?_); go_big_quiet_op; refine hK_ _ ?_; clear hK_ K_)
    (refine tree_quiet (by simp only [List.getElem?_toArray, List.getElem?_cons_succ, List.getElem?_cons_zero]; rfl) (by rfl) (by rfl) (fun K_ hK_ => ?_); go_big_quiet_op; refine hK_ _ ?_; clear hK_ K_)
    (refine tree_quiet (by simp only [List.getElem?_toArray, List.getElem?_cons_succ, List.getElem?_cons_zero]; rfl) (by rfl) (by rfl) (fun K_ hK_ => ?_); go_big_quiet_op; refine hK_ _ ?_; clear hK_ K_)
    (refine tree_quiet (by simp only [List.getElem?_toArray, List.getElem?_cons_succ, List.getElem?_cons_zero]; rfl) (by rfl) (by rfl) (fun K_ hK_ => ?_); go_big_quiet_op; refine hK_ _ ?_; clear hK_ K_)
    (refine tree_run (by simp only [List.getElem?_toArray, List.getElem?_cons_succ, List.getElem?_cons_zero]; rfl) (by rfl) (by rfl) (fun K_ hK_ => ?_); have HK_ := Lib.hid hK_; clear hK_; go_wp2_with ((go_at_call 52; (with_reducible refine (HCL.out _ (HB.out.trans (Below.mono (w := V) (by exact blw) HB.out.size))).mono ?_); rintro e w1 ⟨rfl, hb1⟩)); refine HK_.out _ _ (wld_ofA) ?_; clear HK_)
    (refine tree_quiet (by simp only [List.getElem?_toArray, List.getElem?_cons_succ, List.getElem?_cons_zero]; rfl) (by rfl) (by rfl) (fun K_ hK_ => ?_); go_big_quiet_op; refine hK_ _ ?_; clear hK_ K_)
    refine tree_nil ?_
    clear hG_
    have hb1 : Below V.heap.size V w1 := (by exact blw)
    have HB1 := Lib.hid (HB.out.trans (hb1.mono HB.out.size))
    have l6 := (Array.getElem?_eq_some_iff.1 X6.out).1
    have Y6 := Lib.hid ((hb1.block _ l6).trans X6.out)
    have Y3 := (hb1.block _ (Array.getElem?_eq_some_iff.1 X3.out).1).trans X3.out
    have Y4 := (hb1.block _ (Array.getElem?_eq_some_iff.1 X4.out).1).trans X4.out
    have l6 := (Array.getElem?_eq_some_iff.1 Y6.out).1
    have q3 := fun o => cell_of_heap Y3 o
    have q4 := fun o => cell_of_heap Y4 o
    clear Y3 Y4 hb1
    go_wp2_with (first | (go_at_call 53; (with_reducible refine (HST.out _ HB1.out).mono ?_); rintro e w2 ⟨rfl, hb2⟩; have hb12 := hb2; have p6 := (hb12.block _ l6).trans Y6.out; have q6 := (fun o => cell_of_heap p6 o); have f6 := (fun o => froz_of_heap p6 o); have l6' := (Array.getElem?_eq_some_iff.1 p6).1; have HB2 := Lib.hid (HB1.out.trans (hb12.mono HB1.out.size)); have hn6 : ¬ w2.heap.size = w.heap.size + 1 + 1 := (by omega); clear hb2 hb12 p6))
    refine bodyPost_ret (v := .tuple #[.agg #[.int .i64 (e0 : Nat), .int .i64 (e1 : Nat), .int .i64 (e2 : Nat), .int .i64 (e3 : Nat)], .bool true]) (by simp [results, Tryd.results36, go_sem, hAC, hAF, q6, f6, l6']) rfl ?_
    exact ⟨rfl, by have h0 := HB2.out; have h0z := h0.size; exact blw⟩
/-- Where it is behind a step. -/
def goZ (e : Ent) (stay on : Int) : Nat := (max (if e.2.1 / 2 ^ 14 % 2 = 1 then stay else on) 0).toNat
def goR (e : Ent) (re : Nat) : Nat := if e.2.1 / 2 ^ 14 % 2 = 1 then re + 1 else 0
def goO (e : Ent) (z st re most n : Nat) : Bool := if e.2.1 / 2 ^ 14 % 2 = 1 then decide (most ≤ st + 1) || decide (64 < re + 1) else decide (n ≤ z) || decide (most ≤ st + 1)
def goC (e : Ent) (z st re most n : Nat) : Nat := if e.2.1 / 2 ^ 14 % 2 = 1 then (if most ≤ st + 1 ∨ 64 < re + 1 then 4 else 0) else if n ≤ z then 0 else if most ≤ st + 1 then 4 else 0
set_option maxRecDepth 100000 in
set_option maxHeartbeats 3200000 in
theorem refgo_any (e : Ent) (s z st re most n : Nat) (stay on : Int) (w : World) (hF : e.2.1 ≤ 65535) (hst : st ≤ 1000000000) (hre : re ≤ 1000000000) :
    Calls Tryd.prog 39 #[.agg (wayA s z st re most false 0), entV4 e, .int .i64 (n : Nat), .int .i64 stay, .int .i64 on] w fun r w' => r = .returned (.agg (wayA e.1 (goZ e stay on) (st + 1) (goR e re) most (goO e z st re most n) (goC e z st re most n))) ∧ Below w.heap.size w w' := by
  have hAC := allocC
  have hAF := allocF
  obtain ⟨e0, F, e2, e3⟩ := e
  simp only at hF
  simp only [entV4]
  by_cases hA : F / 2 ^ 14 % 2 = 1
  · have dA : ((F : Int) / 16384 % 2 == 1) = true := by simp; omega
    rw [show goZ (e0, F, e2, e3) stay on = (max stay 0).toNat by unfold goZ; rw [if_pos hA], show goR (e0, F, e2, e3) re = re + 1 by unfold goR; rw [if_pos hA]]
    rw [show goO (e0, F, e2, e3) z st re most n = (decide (most ≤ st + 1) || decide (64 < re + 1)) by unfold goO; rw [if_pos hA], show goC (e0, F, e2, e3) z st re most n = if most ≤ st + 1 ∨ 64 < re + 1 then 4 else 0 by unfold goC; rw [if_pos hA]]
    clear hA
    by_cases h0 : stay < 0
    · have d0 : decide (stay < 0) = true := by simpa using h0
      rw [show (max stay 0).toNat = 0 by omega]
      clear h0
      by_cases hm : most ≤ st + 1
      · have d1 : decide ((most : Int) ≤ (st : Int) + 1) = true := by simp; omega
        rw [decide_eq_true hm, Bool.true_or, if_pos (.inl hm)]
        clear hm
        unfold wayA
        go_enter Tryd.func39, Tryd.ntmps39
        go_wp2_with fail
        exact bodyPost_ret (v := .agg #[.int .i64 (e0 : Nat), .int .i64 0, .int .i64 ((st : Int) + 1), .int .i64 ((re : Int) + 1), .int .i64 (most : Nat), .bool true, .int .i64 4]) (by simp [results, Tryd.results39, go_sem, hAC, hAF]) rfl ⟨rfl, blw⟩
      have d1 : decide ((most : Int) ≤ (st : Int) + 1) = false := by simp; omega
      by_cases hr : 64 < re + 1
      · have d2 : decide ((64 : Int) < (re : Int) + 1) = true := by simp; omega
        rw [decide_eq_true hr, Bool.or_true, if_pos (.inr hr)]
        clear hm hr
        unfold wayA
        go_enter Tryd.func39, Tryd.ntmps39
        go_wp2_with fail
        exact bodyPost_ret (v := .agg #[.int .i64 (e0 : Nat), .int .i64 0, .int .i64 ((st : Int) + 1), .int .i64 ((re : Int) + 1), .int .i64 (most : Nat), .bool true, .int .i64 4]) (by simp [results, Tryd.results39, go_sem, hAC, hAF]) rfl ⟨rfl, blw⟩
      have d2 : decide ((64 : Int) < (re : Int) + 1) = false := by simp; omega
      rw [decide_eq_false hm, decide_eq_false hr, Bool.or_false, if_neg (by omega)]
      clear hm hr
      unfold wayA
      go_enter Tryd.func39, Tryd.ntmps39
      go_wp2_with fail
      exact bodyPost_ret (v := .agg #[.int .i64 (e0 : Nat), .int .i64 0, .int .i64 ((st : Int) + 1), .int .i64 ((re : Int) + 1), .int .i64 (most : Nat), .bool false, .int .i64 0]) (by simp [results, Tryd.results39, go_sem, hAC, hAF]) rfl ⟨rfl, blw⟩
    · obtain ⟨p, rfl⟩ : ∃ p : Nat, stay = p := ⟨stay.toNat, by omega⟩
      have d0 : decide ((p : Int) < 0) = false := by simp
      rw [show (max (p : Int) 0).toNat = p by omega]
      clear h0
      by_cases hm : most ≤ st + 1
      · have d1 : decide ((most : Int) ≤ (st : Int) + 1) = true := by simp; omega
        rw [decide_eq_true hm, Bool.true_or, if_pos (.inl hm)]
        clear hm
        unfold wayA
        go_enter Tryd.func39, Tryd.ntmps39
        go_wp2_with fail
        exact bodyPost_ret (v := .agg #[.int .i64 (e0 : Nat), .int .i64 (p : Nat), .int .i64 ((st : Int) + 1), .int .i64 ((re : Int) + 1), .int .i64 (most : Nat), .bool true, .int .i64 4]) (by simp [results, Tryd.results39, go_sem, hAC, hAF]) rfl ⟨rfl, blw⟩
      have d1 : decide ((most : Int) ≤ (st : Int) + 1) = false := by simp; omega
      by_cases hr : 64 < re + 1
      · have d2 : decide ((64 : Int) < (re : Int) + 1) = true := by simp; omega
        rw [decide_eq_true hr, Bool.or_true, if_pos (.inr hr)]
        clear hm hr
        unfold wayA
        go_enter Tryd.func39, Tryd.ntmps39
        go_wp2_with fail
        exact bodyPost_ret (v := .agg #[.int .i64 (e0 : Nat), .int .i64 (p : Nat), .int .i64 ((st : Int) + 1), .int .i64 ((re : Int) + 1), .int .i64 (most : Nat), .bool true, .int .i64 4]) (by simp [results, Tryd.results39, go_sem, hAC, hAF]) rfl ⟨rfl, blw⟩
      have d2 : decide ((64 : Int) < (re : Int) + 1) = false := by simp; omega
      rw [decide_eq_false hm, decide_eq_false hr, Bool.or_false, if_neg (by omega)]
      clear hm hr
      unfold wayA
      go_enter Tryd.func39, Tryd.ntmps39
      go_wp2_with fail
      exact bodyPost_ret (v := .agg #[.int .i64 (e0 : Nat), .int .i64 (p : Nat), .int .i64 ((st : Int) + 1), .int .i64 ((re : Int) + 1), .int .i64 (most : Nat), .bool false, .int .i64 0]) (by simp [results, Tryd.results39, go_sem, hAC, hAF]) rfl ⟨rfl, blw⟩
  · have dA : ((F : Int) / 16384 % 2 == 1) = false := by simp; omega
    rw [show goZ (e0, F, e2, e3) stay on = (max on 0).toNat by unfold goZ; rw [if_neg hA], show goR (e0, F, e2, e3) re = 0 by unfold goR; rw [if_neg hA]]
    rw [show goO (e0, F, e2, e3) z st re most n = (decide (n ≤ z) || decide (most ≤ st + 1)) by unfold goO; rw [if_neg hA], show goC (e0, F, e2, e3) z st re most n = if n ≤ z then 0 else if most ≤ st + 1 then 4 else 0 by unfold goC; rw [if_neg hA]]
    clear hA
    by_cases h0 : on < 0
    · have d0 : decide (on < 0) = true := by simpa using h0
      rw [show (max on 0).toNat = 0 by omega]
      clear h0
      by_cases hz : n ≤ z
      · have d1 : decide ((n : Int) ≤ (z : Int)) = true := by simp; omega
        have d3 : decide (n ≤ z) = true := by simp; omega
        rw [decide_eq_true hz, Bool.true_or, if_pos hz]
        clear hz
        unfold wayA
        go_enter Tryd.func39, Tryd.ntmps39
        go_wp2_with fail
        exact bodyPost_ret (v := .agg #[.int .i64 (e0 : Nat), .int .i64 0, .int .i64 ((st : Int) + 1), .int .i64 0, .int .i64 (most : Nat), .bool true, .int .i64 0]) (by simp [results, Tryd.results39, go_sem, hAC, hAF]) rfl ⟨rfl, blw⟩
      have d1 : decide ((n : Int) ≤ (z : Int)) = false := by simp; omega
      have d3 : decide (n ≤ z) = false := by simp; omega
      by_cases hm : most ≤ st + 1
      · have d2 : decide ((most : Int) ≤ (st : Int) + 1) = true := by simp; omega
        rw [d3, decide_eq_true hm, Bool.or_true, if_neg hz, if_pos hm]
        clear hm hz
        unfold wayA
        go_enter Tryd.func39, Tryd.ntmps39
        go_wp2_with fail
        exact bodyPost_ret (v := .agg #[.int .i64 (e0 : Nat), .int .i64 0, .int .i64 ((st : Int) + 1), .int .i64 0, .int .i64 (most : Nat), .bool true, .int .i64 4]) (by simp [results, Tryd.results39, go_sem, hAC, hAF]) rfl ⟨rfl, blw⟩
      have d2 : decide ((most : Int) ≤ (st : Int) + 1) = false := by simp; omega
      rw [d3, decide_eq_false hm, Bool.or_false, if_neg hz, if_neg hm]
      clear hm hz
      unfold wayA
      go_enter Tryd.func39, Tryd.ntmps39
      go_wp2_with fail
      exact bodyPost_ret (v := .agg #[.int .i64 (e0 : Nat), .int .i64 0, .int .i64 ((st : Int) + 1), .int .i64 0, .int .i64 (most : Nat), .bool false, .int .i64 0]) (by simp [results, Tryd.results39, go_sem, hAC, hAF]) rfl ⟨rfl, blw⟩
    · obtain ⟨p, rfl⟩ : ∃ p : Nat, on = p := ⟨on.toNat, by omega⟩
      have d0 : decide ((p : Int) < 0) = false := by simp
      rw [show (max (p : Int) 0).toNat = p by omega]
      clear h0
      by_cases hz : n ≤ z
      · have d1 : decide ((n : Int) ≤ (z : Int)) = true := by simp; omega
        have d3 : decide (n ≤ z) = true := by simp; omega
        rw [decide_eq_true hz, Bool.true_or, if_pos hz]
        clear hz
        unfold wayA
        go_enter Tryd.func39, Tryd.ntmps39
        go_wp2_with fail
        exact bodyPost_ret (v := .agg #[.int .i64 (e0 : Nat), .int .i64 (p : Nat), .int .i64 ((st : Int) + 1), .int .i64 0, .int .i64 (most : Nat), .bool true, .int .i64 0]) (by simp [results, Tryd.results39, go_sem, hAC, hAF]) rfl ⟨rfl, blw⟩
      have d1 : decide ((n : Int) ≤ (z : Int)) = false := by simp; omega
      have d3 : decide (n ≤ z) = false := by simp; omega
      by_cases hm : most ≤ st + 1
      · have d2 : decide ((most : Int) ≤ (st : Int) + 1) = true := by simp; omega
        rw [d3, decide_eq_true hm, Bool.or_true, if_neg hz, if_pos hm]
        clear hm hz
        unfold wayA
        go_enter Tryd.func39, Tryd.ntmps39
        go_wp2_with fail
        exact bodyPost_ret (v := .agg #[.int .i64 (e0 : Nat), .int .i64 (p : Nat), .int .i64 ((st : Int) + 1), .int .i64 0, .int .i64 (most : Nat), .bool true, .int .i64 4]) (by simp [results, Tryd.results39, go_sem, hAC, hAF]) rfl ⟨rfl, blw⟩
      have d2 : decide ((most : Int) ≤ (st : Int) + 1) = false := by simp; omega
      rw [d3, decide_eq_false hm, Bool.or_false, if_neg hz, if_neg hm]
      clear hm hz
      unfold wayA
      go_enter Tryd.func39, Tryd.ntmps39
      go_wp2_with fail
      exact bodyPost_ret (v := .agg #[.int .i64 (e0 : Nat), .int .i64 (p : Nat), .int .i64 ((st : Int) + 1), .int .i64 0, .int .i64 (most : Nat), .bool false, .int .i64 0]) (by simp [results, Tryd.results39, go_sem, hAC, hAF]) rfl ⟨rfl, blw⟩
end Go.Proofs.YtlhnfpkenlenjaaDoor
end
section

/- The document's Run of layer 14: where a machine that changes the order is on its way. Conditions: a machine in memory; sizes. -/
namespace Go.Proofs.YtlhnfpkenlenjaaDoor
open Go.RowKit Go.Lib

/-- A step of the document's, told of the machine along a line as a function. -/
theorem way_over {X : Type} {cl : X → Nat → Nat} {en : Nat → Nat → Ent} {fin : X → Nat → Bool} {act : X → Nat → Ent → X × Int × Int} {fu : Nat} {x : X} {s z re st most n : Nat} {R : X × Nat × Nat} {E : Ent} {r : X × Int × Int}
    (hE : en s (cl x z) = E) (hr : act x z E = r) (hfin : fin x z = decide (n ≤ z)) (hfu : st + (fu + 1) = most) (h : runD cl en fin act (fu + 1) x s z re (st + 1) = R) (ho : goO E z st re most n = true) : r.1 = R.1 ∧ goC E z st re most n = R.2.2 := by
  unfold runD at h
  dsimp only at h
  rw [hE, hr] at h
  unfold goO at ho
  unfold goC
  by_cases hA : E.2.1 / 2 ^ 14 % 2 = 1
  · rw [if_pos hA] at h ho
    rw [if_pos hA]
    by_cases h64 : 64 < re + 1
    · rw [if_pos h64] at h
      rw [if_pos (.inr h64), ← h]
      exact ⟨rfl, rfl⟩
    · rw [if_neg h64] at h
      have hm : most ≤ st + 1 := by simpa [h64] using ho
      rw [if_pos (.inl hm)]
      obtain rfl : fu = 0 := by omega
      rw [runD] at h
      rw [← h]
      exact ⟨rfl, rfl⟩
  · rw [if_neg hA] at h ho
    rw [if_neg hA]
    by_cases hz : n ≤ z
    · rw [hfin, decide_eq_true hz, if_pos rfl] at h
      rw [if_pos hz, ← h]
      exact ⟨rfl, rfl⟩
    · rw [hfin, decide_eq_false hz, if_neg (by decide)] at h
      have hm : most ≤ st + 1 := by simpa [hz] using ho
      rw [if_neg hz, if_pos hm]
      obtain rfl : fu = 0 := by omega
      rw [runD] at h
      rw [← h]
      exact ⟨rfl, rfl⟩
theorem way_on {X : Type} {cl : X → Nat → Nat} {en : Nat → Nat → Ent} {fin : X → Nat → Bool} {act : X → Nat → Ent → X × Int × Int} {fu : Nat} {x : X} {s z re st most n : Nat} {R : X × Nat × Nat} {E : Ent} {r : X × Int × Int}
    (hE : en s (cl x z) = E) (hr : act x z E = r) (hfin : fin x z = decide (n ≤ z)) (hfu : st + (fu + 1) = most) (h : runD cl en fin act (fu + 1) x s z re (st + 1) = R) (ho : goO E z st re most n = false) :
    ∃ f, st + 1 + (f + 1) = most ∧ goR E re ≤ 64 ∧ runD cl en fin act (f + 1) r.1 E.1 (goZ E r.2.1 r.2.2) (goR E re) (st + 1 + 1) = R := by
  unfold runD at h
  dsimp only at h
  rw [hE, hr] at h
  unfold goO at ho
  unfold goR goZ
  by_cases hA : E.2.1 / 2 ^ 14 % 2 = 1
  · rw [if_pos hA] at h ho
    rw [if_pos hA, if_pos hA]
    have h64 : ¬ 64 < re + 1 := by intro h'; rw [decide_eq_true h', Bool.or_true] at ho; cases ho
    have hm : ¬ most ≤ st + 1 := by intro h'; rw [decide_eq_true h', Bool.true_or] at ho; cases ho
    rw [if_neg h64] at h
    obtain ⟨f, rfl⟩ : ∃ f, fu = f + 1 := ⟨fu - 1, by omega⟩
    exact ⟨f, by omega, by omega, h⟩
  · rw [if_neg hA] at h ho
    rw [if_neg hA, if_neg hA]
    have hz : ¬ n ≤ z := by intro h'; rw [decide_eq_true h', Bool.true_or] at ho; cases ho
    have hm : ¬ most ≤ st + 1 := by intro h'; rw [decide_eq_true h', Bool.or_true] at ho; cases ho
    rw [hfin, decide_eq_false hz, if_neg (by decide)] at h
    obtain ⟨f, rfl⟩ : ∃ f, fu = f + 1 := ⟨fu - 1, by omega⟩
    exact ⟨f, by omega, by omega, h⟩
theorem goC_zero (E : Ent) (z st re most n : Nat) (h : goO E z st re most n = false) : goC E z st re most n = 0 := by
  unfold goO at h
  unfold goC
  split at h
  · rename_i hA
    rw [if_pos hA]
    rw [if_neg]
    intro h'
    rcases h' with h' | h' <;> rw [decide_eq_true h'] at h <;> simp at h
  · rename_i hA
    rw [if_neg hA]
    by_cases hz : n ≤ z
    · rw [decide_eq_true hz] at h; simp at h
    · rw [if_neg hz, if_neg]
      intro h'
      rw [decide_eq_true h'] at h
      simp at h
theorem goZ_le (E : Ent) {stay on : Int} {b : Nat} (h1 : stay ≤ (b : Int)) (h2 : on ≤ (b : Int)) : goZ E stay on ≤ b := by
  unfold goZ
  split <;> omega
/-- Seven stores into one block. -/
theorem heap7_at {W : World} {g : Nat} {x0 x1 x2 x3 x4 x5 x6 : Value} {t : TypeId} (h : W.heap[g]? = some (.cells #[x0, x1, x2, x3, x4, x5, x6] t (0, 0))) (v0 v1 v2 v3 v4 v5 v6 : Value) :
    (((((((W.setCell ⟨g, 0, none⟩ v0).setCell ⟨g, 1, none⟩ v1).setCell ⟨g, 2, none⟩ v2).setCell ⟨g, 3, none⟩ v3).setCell ⟨g, 4, none⟩ v4).setCell ⟨g, 5, none⟩ v5).setCell ⟨g, 6, none⟩ v6).heap[g]? = some (.cells #[v0, v1, v2, v3, v4, v5, v6] t (0, 0)) := by
  have h := set_heap_at (o := 0) v0 h
  have h := set_heap_at (o := 1) v1 h
  have h := set_heap_at (o := 2) v2 h
  have h := set_heap_at (o := 3) v3 h
  have h := set_heap_at (o := 4) v4 h
  have h := set_heap_at (o := 5) v5 h
  have h := set_heap_at (o := 6) v6 h
  simpa using h
theorem heap7_other {W : World} {g k : Nat} (h : k ≠ g) (v0 v1 v2 v3 v4 v5 v6 : Value) :
    (((((((W.setCell ⟨g, 0, none⟩ v0).setCell ⟨g, 1, none⟩ v1).setCell ⟨g, 2, none⟩ v2).setCell ⟨g, 3, none⟩ v3).setCell ⟨g, 4, none⟩ v4).setCell ⟨g, 5, none⟩ v5).setCell ⟨g, 6, none⟩ v6).heap[k]? = W.heap[k]? := by
  rw [set_heap_other _ h, set_heap_other _ h, set_heap_other _ h, set_heap_other _ h, set_heap_other _ h, set_heap_other _ h, set_heap_other _ h]
theorem has7 {W : World} {a : Option Addr} {xs : List Value} (h : Has W a xs) {g : Nat} (hne : xs ≠ [] → ∀ p, a = some p → p.block ≠ g) (v0 v1 v2 v3 v4 v5 v6 : Value) :
    Has (((((((W.setCell ⟨g, 0, none⟩ v0).setCell ⟨g, 1, none⟩ v1).setCell ⟨g, 2, none⟩ v2).setCell ⟨g, 3, none⟩ v3).setCell ⟨g, 4, none⟩ v4).setCell ⟨g, 5, none⟩ v5).setCell ⟨g, 6, none⟩ v6) a xs :=
  has_set (has_set (has_set (has_set (has_set (has_set (has_set h hne v0) hne v1) hne v2) hne v3) hne v4) hne v5) hne v6
theorem below7 {B : Nat} {w W : World} (h : Below B w W) {g : Nat} (hg : B ≤ g) (v0 v1 v2 v3 v4 v5 v6 : Value) :
    Below B w (((((((W.setCell ⟨g, 0, none⟩ v0).setCell ⟨g, 1, none⟩ v1).setCell ⟨g, 2, none⟩ v2).setCell ⟨g, 3, none⟩ v3).setCell ⟨g, 4, none⟩ v4).setCell ⟨g, 5, none⟩ v5).setCell ⟨g, 6, none⟩ v6) :=
  ((((((h.setCell (p := ⟨g, 0, none⟩) hg v0).setCell (p := ⟨g, 1, none⟩) hg v1).setCell (p := ⟨g, 2, none⟩) hg v2).setCell (p := ⟨g, 3, none⟩) hg v3).setCell (p := ⟨g, 4, none⟩) hg v4).setCell (p := ⟨g, 5, none⟩) hg v5).setCell (p := ⟨g, 6, none⟩) hg v6
/-- How many steps are left, as the way in memory tells. -/
def wayLeft (g : Nat) (w : World) : Nat := match w.cell? ⟨g, 2, none⟩, w.cell? ⟨g, 4, none⟩, w.cell? ⟨g, 5, none⟩ with
  | some (.int .i64 st), some (.int .i64 most), some (.bool false) => (most - st).toNat + 1
  | _, _, _ => 0
theorem wayLeft_is {g s z st re most code : Nat} {over : Bool} {w : World} {t : TypeId} (h : w.heap[g]? = some (.cells (wayA s z st re most over code) t (0, 0))) : wayLeft g w = if over then 0 else most - st + 1 := by
  unfold wayLeft
  rw [cell_of_heap h, cell_of_heap h, cell_of_heap h]
  cases over
  · show ((most : Int) - (st : Int)).toNat + 1 = most - st + 1
    omega
  · rfl
/-- The verb's order of the document's line. -/
theorem refrow_any (g6 : Nat) (ax : Option Addr) (nl cx : Nat) (L : List (Int × Int)) (f t v : Nat) (ai : Option Addr) (ci : Nat) (w : World) (h : Has w ax (gv L)) (hl : L.length = nl) (hA : ax = none → cx = 0) (hne : 0 < nl → ∀ p, ax = some p → p.block ≠ g6) (hg : g6 < w.heap.size)
    (hi : Has w ai (iv (ordV v (t - f)))) (hol : (ordV v (t - f)).length = t - f) (hn : nl ≤ 1000000) (hf : f ≤ nl) (ht : t ≤ nl) (hok : okV (v : Nat) ((t : Int) - (f : Int))) (m : Nat) (hm : m = t - f) :
    Calls Tryd.prog 38 #[.slice ax nl cx, .int .i64 (f : Nat), .slice ai m ci] w fun e w' => ∃ b a' c', e = .returned (.tuple #[.slice a' nl c', .bool b]) ∧ Has w' a' (gv (lineR L f t v)) ∧ (a' = none → c' = 0) ∧ (0 < nl → ∀ p, a' = some p → p.block ≠ g6) ∧ Below w.heap.size w w' := by
  subst hm
  refine (refOrdG_any ax nl cx L (f : Nat) ai (t - f) ci (ordV v (t - f)) w h hl hA hi hol hn (by omega) (by omega) (by omega)).mono ?_
  rintro e w' ⟨x, rfl, hx, hb⟩
  have hlr : lineR L f t v = ordG L (f : Nat) (ordV v (t - f)) := by unfold lineR; rw [if_pos hok]
  have hll : (lineR L f t v).length = nl := (lineR_length _ _ _ _).trans hl
  rw [← hlr] at hx
  rcases hx with ⟨rfl, h1, h2⟩ | hx
  · exact ⟨_, ax, cx, rfl, h2, hA, hne, hb⟩
  · obtain ⟨a', c', rfl, ho⟩ := hx
    rw [hll] at ho
    refine ⟨_, a', c', by rw [hll], has_of_owns ho, ?_, ?_, hb⟩
    · obtain ⟨a2, c2, e, _, _, h3⟩ := owns_slice ho
      injection e with e1 e2 e3
      subst e1 e3
      exact h3
    · intro _ p hp
      subst hp
      rcases ho.2 with ⟨hv, _⟩ | ⟨g, cap, cur, hv, hgg, _⟩
      · injection hv with hv _ _
        cases hv
      · injection hv with hv _ _
        injection hv with hv
        subst hv
        show g ≠ g6
        omega
def machA (a : Option Addr) (n c P0 P8 P12 S NE k : Nat) (A4 : Option Addr) (n4 c4 : Nat) (a' : Option Addr) (L c' : Nat) : Array Value := #[.slice a n c, .int .i64 (P0 : Nat), .int .i64 (P8 : Nat), .int .i64 (P12 : Nat), .int .i64 (S : Nat), .int .i64 (NE : Nat), .int .i64 (k : Nat), .slice A4 n4 c4, .slice a' L c']
/-- What holds along the document's way. -/
def RRInv (bs : List UInt8) (rs : List RP) (S nl M g2 g6 : Nat) (mach : Array Value) (R : RX × Nat × Nat) (w : World) (tl tf tt : Value) (wr : World) : Prop :=
  ∃ (x : RX) (s z st re code : Nat) (over : Bool) (ax : Option Addr) (cx : Nat), tl = .slice ax nl cx ∧ tf = .int .i64 (x.2.1 : Nat) ∧ tt = .int .i64 (x.2.2 : Nat) ∧
    Has wr ax (gv x.1) ∧ x.1.length = nl ∧ (ax = none → cx = 0) ∧ (0 < nl → ∀ p, ax = some p → p.block ≠ g6) ∧ IdsOk x.1 ∧ x.2.1 ≤ nl ∧ x.2.2 ≤ nl ∧
    wr.heap[g6]? = some (.cells (wayA s z st re M over code) 88 (0, 0)) ∧ wr.heap[g2]? = some (.cells mach 39 (0, 0)) ∧ Below w.heap.size w wr ∧ s < S ∧ z ≤ st ∧
    (over = true → x.1 = R.1.1 ∧ code = R.2.2) ∧ (over = false → code = 0 ∧ re ≤ 64 ∧ ∃ fu, st + (fu + 1) = M ∧ runD (fun x z => clD bs rs x.1 z) (enM bs 0) (fun x z => decide (x.1.length ≤ z)) actRx (fu + 1) x s z re (st + 1) = R)
set_option maxRecDepth 100000 in
set_option maxHeartbeats 6400000 in
theorem refrear_any (a : Option Addr) (n c : Nat) (bs : List UInt8) (glyphs : Nat) (rs : List RP) (S : Nat) (a' : Option Addr) (c' : Nat) (al : Option Addr) (nl cl : Nat) (l : List (Int × Int)) (w : World) (h : MRf a n c bs glyphs 0 rs S a' w) (hl : Has w al (gv l)) (hln : l.length = nl) (hA : al = none → cl = 0) (hids : IdsOk l) (hn : nl ≤ 100000) :
    Calls Tryd.prog 15 #[.agg (mrefV a n c bs 0 rs S a' c'), .slice al nl cl] w fun e w' => ∃ x cx, e = .returned (.tuple #[.slice x nl cx, .int .i64 ((rearD bs rs l).2.2 : Nat)]) ∧ Has w' x (gv (rearD bs rs l).1.1) ∧ Below w.heap.size w w' := by
  have hAC := allocC
  have hAF := allocF
  have HM := Lib.hid h
  have HH := Lib.hid hl
  have HLN := Lib.hid hln
  have HA := Lib.hid hA
  have HID := Lib.hid hids
  have hS0 : 0 < S := by have := h.ok.least.closed.1; omega
  have HC4 := Lib.hid h.ok.cls.1
  have HNXT := Lib.hid (fun s c (hs : s < S) (hc : c < num bs 0 4) => enM_next bs 0 h.ok hs hc)
  obtain ⟨R, hR⟩ : ∃ R, R = rearD bs rs l := ⟨_, rfl⟩
  rw [← hR]
  have HR := Lib.hid hR.symm
  obtain ⟨M, hM⟩ : ∃ M, M = 2 * nl + 128 := ⟨_, rfl⟩
  have HBG := Lib.hid (fun W => show Calls Tryd.prog 35 #[.int .i64 (nl : Nat)] W fun e w' => e = .returned (.agg #[.int .i64 0, .int .i64 0, .int .i64 0, .int .i64 0, .int .i64 (M : Nat), .bool false, .int .i64 0]) ∧ Below W.heap.size W w' from hM ▸ refbegin_any nl W (by omega))
  have HMM := Lib.hid hM
  have hMb : M ≤ 300000 := by omega
  have hM0 : 128 ≤ M := by omega
  clear hM
  have HNX := Lib.hid (fun (s z st re most : Nat) (ax : Option Addr) (cx : Nat) (L : List (Int × Int)) (W : World) (hW : Below w.heap.size w W) (h1 : Has W ax (gv L)) (h2 : L.length = nl) (h3 : IdsOk L) (hs : s < S) (hz : z ≤ 1000000000) => refnext_any a n c bs glyphs 0 rs S a' c' s z st re most ax nl cx L W (HM.out.below hW) h1 h2 h3 hs hz)
  unfold mrefV mrefA at *
  rw [show ((0 : Nat) : Int) = 0 from rfl] at *
  obtain ⟨mach, hmach⟩ : ∃ m : Array Value, m = #[.slice a n c, .int .i64 (num bs 0 4 : Nat), .int .i64 (num bs 8 4 : Nat), .int .i64 (num bs 12 4 : Nat), .int .i64 (S : Nat), .int .i64 (needE bs S : Nat), .int .i64 0, .slice (adv a c (num bs 4 4)) (n - num bs 4 4) (c - num bs 4 4), .slice a' rs.length c'] := ⟨_, rfl⟩
  generalize num bs 4 4 = P4 at *
  generalize num bs 8 4 = P8 at *
  generalize num bs 12 4 = P12 at *
  generalize needE bs S = NE at *
  generalize adv a c P4 = A4 at *
  generalize rs.length = LR at *
  clear h hl hln hA hids hR
  go_enter Tryd.func15, Tryd.ntmps15
  go_wp2_with fail
  obtain ⟨W, hW⟩ : ∃ W, W = w.alloc (Obj.cells mach 39) := ⟨_, rfl⟩
  have hbW : Below w.heap.size w W := by rw [hW]; exact balloc (brefl w) _
  have x2 : W.heap[w.heap.size]? = some (.cells mach 39 (0, 0)) := by rw [hW]; exact (heap_push _ _ _).trans (if_pos rfl)
  have l2 := (Array.getElem?_eq_some_iff.1 x2).1
  rw [hmach] at hW
  rw [← hW]
  refine (HBG.out W).mono ?_
  rintro e w1 ⟨rfl, hb1⟩
  have x2 := (hb1.block _ l2).trans x2
  have l2 := (Array.getElem?_eq_some_iff.1 x2).1
  have hw1 := hb1.size
  go_wp2_with fail
  obtain ⟨V, hV⟩ : ∃ V, V = w1.alloc (Obj.cells (wayA 0 0 0 0 M false 0) 88) := ⟨_, rfl⟩
  have hbV : Below w.heap.size w V := by rw [hV]; exact hbW.trans ((hb1.trans ((balloc (brefl w1) _).mono hw1)).mono hbW.size)
  have x6 : V.heap[w1.heap.size]? = some (.cells (wayA 0 0 0 0 M false 0) 88 (0, 0)) := by rw [hV]; exact (heap_push _ _ _).trans (if_pos rfl)
  have x2 : V.heap[w.heap.size]? = some (.cells mach 39 (0, 0)) := by rw [hV]; exact ((balloc (brefl w1) _).block _ l2).trans x2
  change V = w1.alloc (Obj.cells #[.int .i64 0, .int .i64 0, .int .i64 0, .int .i64 0, .int .i64 (M : Nat), .bool false, .int .i64 0] 88) at hV
  rw [← hV]
  have HV := Lib.hid (show RRInv bs rs S nl M w.heap.size w1.heap.size mach R w (.slice al nl cl) (.int .i64 0) (.int .i64 0) V from ⟨(l, 0, 0), 0, 0, 0, 0, 0, false, al, cl, rfl, rfl, rfl, HH.out.below hbV, HLN.out, HA.out, (by
    intro h0 p hp
    obtain ⟨g, o, he, hg, _⟩ := HH.out.get (by rw [gv_length, HLN.out]; omega)
    rw [he] at hp
    injection hp with hp
    subst hp
    have := hbW.size
    show g ≠ w1.heap.size
    omega), HID.out, Nat.zero_le _, Nat.zero_le _, x6, x2, hbV, hS0, Nat.le_refl _, (fun h => by cases h), fun _ => ⟨rfl, Nat.zero_le _, M - 1, by omega, by
      rw [show M - 1 + 1 = M by omega]
      have := HR.out
      unfold rearD at this
      rw [HLN.out, ← HMM.out] at this
      exact this⟩⟩)
  have h26 : w.heap.size < w1.heap.size := l2
  clear hV hbV x6 x2 l2 hW hbW hb1 hw1
  go_loopw [1, 7, 8] (fun tl tf tt wr => RRInv bs rs S nl M w.heap.size w1.heap.size mach R w tl tf tt wr) (fun _ _ _ wr => wayLeft w1.heap.size wr)
  case atStart => exact HV.out
  case round =>
    obtain ⟨⟨L, f, t⟩, s, z, st, re, code, over, ax, cx, rfl, rfl, rfl, hh, hLn, hxA, hne, hid, hf, ht, x6, x2, hb, hs, hz, hov, hnov⟩ := hrel
    rename World => wr
    simp only at hh hLn hid hf ht hov
    have q6 := fun o => cell_of_heap x6 o
    have l6 := (Array.getElem?_eq_some_iff.1 x6).1
    cases over with
    | true =>
      obtain ⟨e1, e2⟩ := hov rfl
      have HHR := Lib.hid (show Has wr ax (gv R.1.1) from e1 ▸ hh)
      have HE2 := Lib.hid e2
      have HB := Lib.hid hb
      clear e1 e2 hov hnov hh hb x2 x6
      simp only [wayA] at q6
      go_wp2_with fail
      refine wp_region_tree (.step 0 (.step 1 (.step 2 (.step 3 (.step 4 .nil))))) (by kernel_rfl) (by kernel_rfl) (by kernel_rfl) (by kernel_rfl) (by intro _ _ d_ _ _ h_; cases d_ <;> first | exact h_ | (dsimp +zetaDelta only at h_ ⊢; exact h_)) (fun w' => ∃ p : Wld wr [], w' = p.val) (wld_start _ _) ?_
      have hG_ := @wldC wr
      (refine tree_quiet (by simp only [List.getElem?_toArray, List.getElem?_cons_succ, List.getElem?_cons_zero]; rfl) (by rfl) (by rfl) (fun K_ hK_ => ?_); go_big_quiet_op; refine hK_ _ ?_; clear hK_ K_)
      (refine tree_quiet (by simp only [List.getElem?_toArray, List.getElem?_cons_succ, List.getElem?_cons_zero]; rfl) (by rfl) (by rfl) (fun K_ hK_ => ?_); go_big_quiet_op; refine hK_ _ ?_; clear hK_ K_)
      (refine tree_quiet (by simp only [List.getElem?_toArray, List.getElem?_cons_succ, List.getElem?_cons_zero]; rfl) (by rfl) (by rfl) (fun K_ hK_ => ?_); go_big_quiet_op; refine hK_ _ ?_; clear hK_ K_)
      (refine tree_quiet (by simp only [List.getElem?_toArray, List.getElem?_cons_succ, List.getElem?_cons_zero]; rfl) (by rfl) (by rfl) (fun K_ hK_ => ?_); go_big_quiet_op; refine hK_ _ ?_; clear hK_ K_)
      (refine tree_quiet (by simp only [List.getElem?_toArray, List.getElem?_cons_succ, List.getElem?_cons_zero]; rfl) (by rfl) (by rfl) (fun K_ hK_ => ?_); go_big_quiet_op; refine hK_ _ ?_; clear hK_ K_)
      refine tree_nil ?_
      clear hG_
      go_wp2_with fail
      refine bodyPost_ret (v := .tuple #[.slice ax nl cx, .int .i64 (code : Nat)]) (by simp [results, Tryd.results15, go_sem]) rfl ?_
      exact ⟨ax, cx, by rw [HE2.out], HHR.out, bdrew1 HB.out⟩
    | false =>
      obtain ⟨rfl, hre, fu, hfu, hrun⟩ := hnov rfl
      have HRUN := Lib.hid hrun
      have HHX := Lib.hid hh
      have HIDX := Lib.hid hid
      have HLX := Lib.hid hLn
      have HNE := Lib.hid hne
      have HXA := Lib.hid hxA
      have HB := Lib.hid hb
      have X6 := Lib.hid x6
      have X2 := Lib.hid x2
      have hzr := hb.size
      have hst : st ≤ M := by omega
      have HNX1 := Lib.hid (HNX.out s z st re M ax cx L wr hb hh hLn hid hs (by omega))
      have hcl := clD_lt bs rs L z HC4.out
      have hle := entX_le (bs.drop (num bs 12 4)) 0 (entN bs (s * num bs 0 4 + clD bs rs L z))
      have hnx := HNXT.out s (clD bs rs L z) hs hcl
      change (enM bs 0 s (clD bs rs L z)).1 ≤ 65535 ∧ (enM bs 0 s (clD bs rs L z)).2.1 ≤ 65535 ∧ _ at hle
      obtain ⟨E, hE⟩ : ∃ E, enM bs 0 s (clD bs rs L z) = E := ⟨_, rfl⟩
      rw [hE] at HNX1 hle hnx
      have HE := Lib.hid hE
      obtain ⟨e0, F, e2, e3⟩ := E
      simp only [entV4, wayA] at HNX1
      simp only at hle hnx
      have hF := hle.2.1
      have q2 := fun o => cell_of_heap x2 o
      have l2 := (Array.getElem?_eq_some_iff.1 x2).1
      clear hov hnov hh hid hLn hne hxA hb hrun hE hle hcl x2 x6
      simp only [wayA] at q6
      rw [show ((0 : Nat) : Int) = 0 from rfl] at q6 HNX1
      have hm16 : ((F : Int) % 16) = ((F % 16 : Nat) : Int) := by omega
      have HM16 := Lib.hid hm16
      clear hm16
      obtain ⟨v, hv⟩ : ∃ v, v = F % 16 := ⟨_, rfl⟩
      have hv16 : v < 16 := by omega
      have HV := Lib.hid hv
      obtain ⟨f1, hf1⟩ : ∃ f1, f1 = min z nl := ⟨_, rfl⟩
      obtain ⟨t1, ht1⟩ : ∃ t1, t1 = min (z + 1) nl := ⟨_, rfl⟩
      have m1 : min (z : Int) (nl : Int) = (f1 : Int) := by omega
      have m2 : min ((z : Int) + 1) (nl : Int) = (t1 : Int) := by omega
      have hf1n : f1 ≤ nl := by omega
      have ht1n : t1 ≤ nl := by omega
      have m3 : min z nl = f1 := hf1.symm
      have m4 : min (z + 1) nl = t1 := ht1.symm
      have HF1 := Lib.hid hf1
      have HT1 := Lib.hid ht1
      clear hf1 ht1 hv
      have HGO := Lib.hid (fun W => refgo_any (e0, F, e2, e3) s z st re M nl (z : Nat) ((z : Int) + 1) W hF (by omega) (by omega))
      have HWO := Lib.hid (fun (x1 : RX) (hx1 : actRx (L, f, t) z (e0, F, e2, e3) = (x1, (z : Int), (z : Int) + 1)) (ho : goO (e0, F, e2, e3) z st re M nl = true) => way_over (cl := fun (x : RX) z => clD bs rs x.1 z) (x := (L, f, t)) (n := nl) HE.out hx1 (by show decide (L.length ≤ z) = _; rw [HLX.out]) hfu HRUN.out ho)
      have HWN := Lib.hid (fun (x1 : RX) (hx1 : actRx (L, f, t) z (e0, F, e2, e3) = (x1, (z : Int), (z : Int) + 1)) (ho : goO (e0, F, e2, e3) z st re M nl = false) => way_on (cl := fun (x : RX) z => clD bs rs x.1 z) (x := (L, f, t)) (n := nl) HE.out hx1 (by show decide (L.length ≤ z) = _; rw [HLX.out]) hfu HRUN.out ho)
      have hgz := goZ_le (e0, F, e2, e3) (stay := (z : Nat)) (on := (z : Int) + 1) (b := z + 1) (by omega) (by omega)
      have hgr : goR (e0, F, e2, e3) re ≤ 65 := by unfold goR; split <;> omega
      obtain ⟨oz, hoz⟩ : ∃ oz, oz = goZ (e0, F, e2, e3) (z : Nat) ((z : Int) + 1) := ⟨_, rfl⟩
      obtain ⟨orr, hor⟩ : ∃ r, r = goR (e0, F, e2, e3) re := ⟨_, rfl⟩
      obtain ⟨oo, hoo⟩ : ∃ r, r = goO (e0, F, e2, e3) z st re M nl := ⟨_, rfl⟩
      obtain ⟨oc, hoc⟩ : ∃ r, r = goC (e0, F, e2, e3) z st re M nl := ⟨_, rfl⟩
      have hcz : goO (e0, F, e2, e3) z st re M nl = false → goC (e0, F, e2, e3) z st re M nl = 0 := goC_zero _ _ _ _ _ _
      simp only [← hoz, ← hor, ← hoo, ← hoc] at HGO HWO HWN hgz hgr hcz
      have hst1 : ((st + 1 : Nat) : Int) = (st : Int) + 1 := by omega
      simp only [entV4, wayA, hst1] at HGO
      rw [show ((0 : Nat) : Int) = 0 from rfl] at HGO
      have HNO := Lib.hid hcz
      have hstM : st < M := by omega
      clear hoz hor hoo hoc hst1 HE HRUN hfu
      by_cases hA : F / 32768 % 2 = 1
      · by_cases hC : F / 8192 % 2 = 1
        · have d1 : decide ((32768 : Int) ≤ (F : Int)) = true := by simp; omega
          have d1n : decide (32768 ≤ F) = true := by simp; omega
          have d2 : ((F : Int) / 8192 % 2 == 1) = true := by simp; omega
          have e1 : firstR (L, f, t) z F = f1 := by unfold firstR; rw [if_pos hA]; exact HLX.out ▸ HF1.out.symm
          have e2' : lastR (L, f, t) z F = t1 := by unfold lastR; rw [if_pos hC]; exact HLX.out ▸ HT1.out.symm
          have HAC := Lib.hid (show actRx (L, f, t) z (e0, F, e2, e3) = ((lineR L f1 t1 v, f1, t1), (z : Int), (z : Int) + 1) from by unfold actRx actR; rw [e1, e2', ← HV.out])
          clear e1 e2' hA hC
          by_cases hok : okV (v : Nat) ((t1 : Int) - (f1 : Int))
          · obtain ⟨vn, mn, hvn, hmn, g1, g2, g3⟩ := okV_pre hok
            obtain rfl : v = vn := by omega
            obtain ⟨m, hm⟩ : ∃ m, m = t1 - f1 := ⟨_, rfl⟩
            have hmz : (t1 : Int) - (f1 : Int) = (m : Nat) := by omega
            obtain rfl : m = mn := by omega
            have hol : (ordV v m).length = m := ordV_length _ _ hv16 g1 g3
            have HO := Lib.hid (fun W => refvorder_yes v m W (by omega) g1 hv16 g3 ((F : Int) % 16) ((t1 : Int) - (f1 : Int)) (by rw [HM16.out, ← HV.out]) hmz (refvorder_any _ _ W (by omega) (by omega)))
            have HRW := Lib.hid (fun ai ci W (h1 : Has W ax (gv L)) (hg : w1.heap.size < W.heap.size) (hi : Has W ai (iv (ordV v m))) => refrow_any w1.heap.size ax nl cx L f1 t1 v ai ci W h1 HLX.out HXA.out HNE.out hg (hm ▸ hi) (hm ▸ hol) (by omega) (by omega) (by omega) hok m hm)
            clear hok hvn hmn hm hol g1 g2 g3 hmz
            go_wp2_with (first
              | (go_at_call 36; (with_reducible refine HNX1.out.mono ?_); rintro e w2 ⟨rfl, hb2⟩; have y6 := (hb2.block _ l6).trans X6.out; have q6 := (fun o => cell_of_heap y6 o); have ly6 := (Array.getElem?_eq_some_iff.1 y6).1; have Y6 := Lib.hid y6; have Y2 := Lib.hid ((hb2.block _ l2).trans X2.out); have HB2 := Lib.hid (HB.out.trans (hb2.mono hzr)); have HH2 := Lib.hid (HHX.out.below hb2); simp only [wayA] at q6; rw [show ((0 : Nat) : Int) = 0 from rfl] at q6; clear hb2 y6)
              | (go_at_call 37; (with_reducible refine (HO.out _).mono ?_); rintro e w3 ⟨ai, ci, rfl, hi, _, _, _, hb3⟩; have HI := Lib.hid hi; clear hi; have b23 := (balloc (brefl w2) (.cells #[.int .i64 (e0 : Nat), .int .i64 (F : Nat), .int .i64 (e2 : Nat), .int .i64 (e3 : Nat)] 55)).trans (hb3.mono (by simp)); have y9 : w3.heap[w2.heap.size]? = some (.cells #[.int .i64 (e0 : Nat), .int .i64 (F : Nat), .int .i64 (e2 : Nat), .int .i64 (e3 : Nat)] 55 (0, 0)) := (hb3.block _ (by simp)).trans ((heap_push _ _ _).trans (if_pos rfl)); have y6 := (b23.block _ ly6).trans Y6.out; have q6 := (fun o => cell_of_heap y6 o); have q9 := (fun o => cell_of_heap y9 o); have l36 := (Array.getElem?_eq_some_iff.1 y6).1; have l39 := (Array.getElem?_eq_some_iff.1 y9).1; have Z6 := Lib.hid y6; have Z9 := Lib.hid y9; have Z2 := Lib.hid ((b23.block _ (Array.getElem?_eq_some_iff.1 Y2.out).1).trans Y2.out); have HB3 := Lib.hid (HB2.out.trans (b23.mono HB2.out.size)); have HH3 := Lib.hid (HH2.out.below b23); simp only [wayA] at q6; rw [show ((0 : Nat) : Int) = 0 from rfl] at q6; clear hb3 b23 y6 y9)
              | (go_at_call 38; (with_reducible refine (HRW.out _ _ _ HH3.out l36 HI.out).mono ?_); rintro e w4 ⟨bb, a4, c4, rfl, hh4, ha4, hn4, hb4⟩; have y6 := (hb4.block _ l36).trans Z6.out; have q6 := (fun o => cell_of_heap y6 o); have y9 := (hb4.block _ l39).trans Z9.out; have q9 := (fun o => cell_of_heap y9 o); have l46 := (Array.getElem?_eq_some_iff.1 y6).1; have l49 := (Array.getElem?_eq_some_iff.1 y9).1; have U6 := Lib.hid y6; have U2 := Lib.hid ((hb4.block _ (Array.getElem?_eq_some_iff.1 Z2.out).1).trans Z2.out); have HB4 := Lib.hid (HB3.out.trans (hb4.mono HB3.out.size)); have HH4 := Lib.hid hh4; have HA4 := Lib.hid ha4; have HN4 := Lib.hid hn4; simp only [wayA] at q6; rw [show ((0 : Nat) : Int) = 0 from rfl] at q6; clear hh4 ha4 hn4 hb4 y6 y9)
              | (go_at_call 39; (with_reducible refine (HGO.out _).mono ?_); rintro e w5 ⟨rfl, hb5⟩; have y6 := (hb5.block _ l46).trans U6.out; have q6 := (fun o => cell_of_heap y6 o); have f6 := (fun o => froz_of_heap y6 o); have l56 := (Array.getElem?_eq_some_iff.1 y6).1; have T6 := Lib.hid y6; have T2 := Lib.hid ((hb5.block _ (Array.getElem?_eq_some_iff.1 U2.out).1).trans U2.out); have HB5 := Lib.hid (HB4.out.trans (hb5.mono HB4.out.size)); have HH5 := Lib.hid (HH4.out.below hb5); simp only [wayA] at q6; rw [show ((0 : Nat) : Int) = 0 from rfl] at q6; clear hb5 y6))
            have hw7 := show _ = some (Obj.cells (wayA e0 oz (st + 1) orr M oo oc) _ _) from heap7_at T6.out (.int .i64 (e0 : Nat)) (.int .i64 (oz : Nat)) (.int .i64 ((st : Int) + 1)) (.int .i64 (orr : Nat)) (.int .i64 (M : Nat)) (.bool oo) (.int .i64 (oc : Nat))
            refine ⟨⟨(lineR L f1 t1 v, f1, t1), e0, oz, st + 1, orr, oc, oo, a4, c4, rfl, rfl, rfl, has7 HH5.out (fun hx => HN4.out (Nat.pos_of_ne_zero (by intro h0; apply hx; rw [List.eq_nil_iff_length_eq_zero.2 (((lineR_length _ _ _ _).trans HLX.out).trans h0)]; rfl))) _ _ _ _ _ _ _, (lineR_length _ _ _ _).trans HLX.out, HA4.out, HN4.out, lineR_ids HIDX.out _ _ _, by omega, by omega, hw7, (heap7_other (by omega) _ _ _ _ _ _ _).trans T2.out, below7 HB5.out (by omega) _ _ _ _ _ _ _, hnx, by omega, (fun h => ⟨congrArg (·.1) (HWO.out _ HAC.out h).1, (HWO.out _ HAC.out h).2⟩), (fun h => by obtain ⟨f, h1, h2, h3⟩ := HWN.out _ HAC.out h; exact ⟨HNO.out h, h2, f, h1, h3⟩)⟩, ?_⟩
            rw [wayLeft_is hw7, wayLeft_is X6.out]
            cases oo <;> simp <;> omega
          · have hlr : lineR L f1 t1 v = L := by unfold lineR; rw [if_neg hok]
            have HO := Lib.hid (fun W => (refvorder_any ((F : Int) % 16) ((t1 : Int) - (f1 : Int)) W (by omega) (by omega)).mono (R' := fun e w' => e = .returned (.tuple #[.slice none 0 0, .bool false]) ∧ Below W.heap.size W w') (by
              rintro e w' (⟨h1, _⟩ | ⟨_, h2, h3⟩)
              · rw [HM16.out, ← HV.out] at h1; exact absurd h1 hok
              · exact ⟨h2, h3⟩))
            rw [hlr] at HAC
            clear hok hlr
            go_wp2_with (first
              | (go_at_call 36; (with_reducible refine HNX1.out.mono ?_); rintro e w2 ⟨rfl, hb2⟩; have y6 := (hb2.block _ l6).trans X6.out; have q6 := (fun o => cell_of_heap y6 o); have ly6 := (Array.getElem?_eq_some_iff.1 y6).1; have Y6 := Lib.hid y6; have Y2 := Lib.hid ((hb2.block _ l2).trans X2.out); have HB2 := Lib.hid (HB.out.trans (hb2.mono hzr)); have HH2 := Lib.hid (HHX.out.below hb2); simp only [wayA] at q6; rw [show ((0 : Nat) : Int) = 0 from rfl] at q6; clear hb2 y6)
              | (go_at_call 37; (with_reducible refine (HO.out _).mono ?_); rintro e w3 ⟨rfl, hb3⟩; have b23 := (balloc (brefl w2) (.cells #[.int .i64 (e0 : Nat), .int .i64 (F : Nat), .int .i64 (e2 : Nat), .int .i64 (e3 : Nat)] 55)).trans (hb3.mono (by simp)); have y9 : w3.heap[w2.heap.size]? = some (.cells #[.int .i64 (e0 : Nat), .int .i64 (F : Nat), .int .i64 (e2 : Nat), .int .i64 (e3 : Nat)] 55 (0, 0)) := (hb3.block _ (by simp)).trans ((heap_push _ _ _).trans (if_pos rfl)); have y6 := (b23.block _ ly6).trans Y6.out; have q6 := (fun o => cell_of_heap y6 o); have q9 := (fun o => cell_of_heap y9 o); have l36 := (Array.getElem?_eq_some_iff.1 y6).1; have l39 := (Array.getElem?_eq_some_iff.1 y9).1; have Z6 := Lib.hid y6; have Z9 := Lib.hid y9; have Z2 := Lib.hid ((b23.block _ (Array.getElem?_eq_some_iff.1 Y2.out).1).trans Y2.out); have HB3 := Lib.hid (HB2.out.trans (b23.mono HB2.out.size)); have HH3 := Lib.hid (HH2.out.below b23); simp only [wayA] at q6; rw [show ((0 : Nat) : Int) = 0 from rfl] at q6; clear hb3 b23 y6 y9)
              | (go_at_call 39; (with_reducible refine (HGO.out _).mono ?_); rintro e w5 ⟨rfl, hb5⟩; have y6 := (hb5.block _ l36).trans Z6.out; have q6 := (fun o => cell_of_heap y6 o); have f6 := (fun o => froz_of_heap y6 o); have l56 := (Array.getElem?_eq_some_iff.1 y6).1; have T6 := Lib.hid y6; have T2 := Lib.hid ((hb5.block _ (Array.getElem?_eq_some_iff.1 Z2.out).1).trans Z2.out); have HB5 := Lib.hid (HB3.out.trans (hb5.mono HB3.out.size)); have HH5 := Lib.hid (HH3.out.below hb5); simp only [wayA] at q6; rw [show ((0 : Nat) : Int) = 0 from rfl] at q6; clear hb5 y6))
            have hw7 := show _ = some (Obj.cells (wayA e0 oz (st + 1) orr M oo oc) _ _) from heap7_at T6.out (.int .i64 (e0 : Nat)) (.int .i64 (oz : Nat)) (.int .i64 ((st : Int) + 1)) (.int .i64 (orr : Nat)) (.int .i64 (M : Nat)) (.bool oo) (.int .i64 (oc : Nat))
            refine ⟨⟨(L, f1, t1), e0, oz, st + 1, orr, oc, oo, ax, cx, rfl, rfl, rfl, has7 HH5.out (fun hx => HNE.out (Nat.pos_of_ne_zero (by intro h0; apply hx; rw [List.eq_nil_iff_length_eq_zero.2 ((HLX.out).trans h0)]; rfl))) _ _ _ _ _ _ _, HLX.out, HXA.out, HNE.out, HIDX.out, by omega, by omega, hw7, (heap7_other (by omega) _ _ _ _ _ _ _).trans T2.out, below7 HB5.out (by omega) _ _ _ _ _ _ _, hnx, by omega, (fun h => ⟨congrArg (·.1) (HWO.out _ HAC.out h).1, (HWO.out _ HAC.out h).2⟩), (fun h => by obtain ⟨f, h1, h2, h3⟩ := HWN.out _ HAC.out h; exact ⟨HNO.out h, h2, f, h1, h3⟩)⟩, ?_⟩
            rw [wayLeft_is hw7, wayLeft_is X6.out]
            cases oo <;> simp <;> omega
        · have d1 : decide ((32768 : Int) ≤ (F : Int)) = true := by simp; omega
          have d1n : decide (32768 ≤ F) = true := by simp; omega
          have d2 : ((F : Int) / 8192 % 2 == 1) = false := by simp; omega
          have e1 : firstR (L, f, t) z F = f1 := by unfold firstR; rw [if_pos hA]; exact HLX.out ▸ HF1.out.symm
          have e2' : lastR (L, f, t) z F = t := by unfold lastR; rw [if_neg hC]
          have HAC := Lib.hid (show actRx (L, f, t) z (e0, F, e2, e3) = ((lineR L f1 t v, f1, t), (z : Int), (z : Int) + 1) from by unfold actRx actR; rw [e1, e2', ← HV.out])
          clear e1 e2' hA hC
          by_cases hok : okV (v : Nat) ((t : Int) - (f1 : Int))
          · obtain ⟨vn, mn, hvn, hmn, g1, g2, g3⟩ := okV_pre hok
            obtain rfl : v = vn := by omega
            obtain ⟨m, hm⟩ : ∃ m, m = t - f1 := ⟨_, rfl⟩
            have hmz : (t : Int) - (f1 : Int) = (m : Nat) := by omega
            obtain rfl : m = mn := by omega
            have hol : (ordV v m).length = m := ordV_length _ _ hv16 g1 g3
            have HO := Lib.hid (fun W => refvorder_yes v m W (by omega) g1 hv16 g3 ((F : Int) % 16) ((t : Int) - (f1 : Int)) (by rw [HM16.out, ← HV.out]) hmz (refvorder_any _ _ W (by omega) (by omega)))
            have HRW := Lib.hid (fun ai ci W (h1 : Has W ax (gv L)) (hg : w1.heap.size < W.heap.size) (hi : Has W ai (iv (ordV v m))) => refrow_any w1.heap.size ax nl cx L f1 t v ai ci W h1 HLX.out HXA.out HNE.out hg (hm ▸ hi) (hm ▸ hol) (by omega) (by omega) (by omega) hok m hm)
            clear hok hvn hmn hm hol g1 g2 g3 hmz
            go_wp2_with (first
              | (go_at_call 36; (with_reducible refine HNX1.out.mono ?_); rintro e w2 ⟨rfl, hb2⟩; have y6 := (hb2.block _ l6).trans X6.out; have q6 := (fun o => cell_of_heap y6 o); have ly6 := (Array.getElem?_eq_some_iff.1 y6).1; have Y6 := Lib.hid y6; have Y2 := Lib.hid ((hb2.block _ l2).trans X2.out); have HB2 := Lib.hid (HB.out.trans (hb2.mono hzr)); have HH2 := Lib.hid (HHX.out.below hb2); simp only [wayA] at q6; rw [show ((0 : Nat) : Int) = 0 from rfl] at q6; clear hb2 y6)
              | (go_at_call 37; (with_reducible refine (HO.out _).mono ?_); rintro e w3 ⟨ai, ci, rfl, hi, _, _, _, hb3⟩; have HI := Lib.hid hi; clear hi; have b23 := (balloc (brefl w2) (.cells #[.int .i64 (e0 : Nat), .int .i64 (F : Nat), .int .i64 (e2 : Nat), .int .i64 (e3 : Nat)] 55)).trans (hb3.mono (by simp)); have y9 : w3.heap[w2.heap.size]? = some (.cells #[.int .i64 (e0 : Nat), .int .i64 (F : Nat), .int .i64 (e2 : Nat), .int .i64 (e3 : Nat)] 55 (0, 0)) := (hb3.block _ (by simp)).trans ((heap_push _ _ _).trans (if_pos rfl)); have y6 := (b23.block _ ly6).trans Y6.out; have q6 := (fun o => cell_of_heap y6 o); have q9 := (fun o => cell_of_heap y9 o); have l36 := (Array.getElem?_eq_some_iff.1 y6).1; have l39 := (Array.getElem?_eq_some_iff.1 y9).1; have Z6 := Lib.hid y6; have Z9 := Lib.hid y9; have Z2 := Lib.hid ((b23.block _ (Array.getElem?_eq_some_iff.1 Y2.out).1).trans Y2.out); have HB3 := Lib.hid (HB2.out.trans (b23.mono HB2.out.size)); have HH3 := Lib.hid (HH2.out.below b23); simp only [wayA] at q6; rw [show ((0 : Nat) : Int) = 0 from rfl] at q6; clear hb3 b23 y6 y9)
              | (go_at_call 38; (with_reducible refine (HRW.out _ _ _ HH3.out l36 HI.out).mono ?_); rintro e w4 ⟨bb, a4, c4, rfl, hh4, ha4, hn4, hb4⟩; have y6 := (hb4.block _ l36).trans Z6.out; have q6 := (fun o => cell_of_heap y6 o); have y9 := (hb4.block _ l39).trans Z9.out; have q9 := (fun o => cell_of_heap y9 o); have l46 := (Array.getElem?_eq_some_iff.1 y6).1; have l49 := (Array.getElem?_eq_some_iff.1 y9).1; have U6 := Lib.hid y6; have U2 := Lib.hid ((hb4.block _ (Array.getElem?_eq_some_iff.1 Z2.out).1).trans Z2.out); have HB4 := Lib.hid (HB3.out.trans (hb4.mono HB3.out.size)); have HH4 := Lib.hid hh4; have HA4 := Lib.hid ha4; have HN4 := Lib.hid hn4; simp only [wayA] at q6; rw [show ((0 : Nat) : Int) = 0 from rfl] at q6; clear hh4 ha4 hn4 hb4 y6 y9)
              | (go_at_call 39; (with_reducible refine (HGO.out _).mono ?_); rintro e w5 ⟨rfl, hb5⟩; have y6 := (hb5.block _ l46).trans U6.out; have q6 := (fun o => cell_of_heap y6 o); have f6 := (fun o => froz_of_heap y6 o); have l56 := (Array.getElem?_eq_some_iff.1 y6).1; have T6 := Lib.hid y6; have T2 := Lib.hid ((hb5.block _ (Array.getElem?_eq_some_iff.1 U2.out).1).trans U2.out); have HB5 := Lib.hid (HB4.out.trans (hb5.mono HB4.out.size)); have HH5 := Lib.hid (HH4.out.below hb5); simp only [wayA] at q6; rw [show ((0 : Nat) : Int) = 0 from rfl] at q6; clear hb5 y6))
            have hw7 := show _ = some (Obj.cells (wayA e0 oz (st + 1) orr M oo oc) _ _) from heap7_at T6.out (.int .i64 (e0 : Nat)) (.int .i64 (oz : Nat)) (.int .i64 ((st : Int) + 1)) (.int .i64 (orr : Nat)) (.int .i64 (M : Nat)) (.bool oo) (.int .i64 (oc : Nat))
            refine ⟨⟨(lineR L f1 t v, f1, t), e0, oz, st + 1, orr, oc, oo, a4, c4, rfl, rfl, rfl, has7 HH5.out (fun hx => HN4.out (Nat.pos_of_ne_zero (by intro h0; apply hx; rw [List.eq_nil_iff_length_eq_zero.2 (((lineR_length _ _ _ _).trans HLX.out).trans h0)]; rfl))) _ _ _ _ _ _ _, (lineR_length _ _ _ _).trans HLX.out, HA4.out, HN4.out, lineR_ids HIDX.out _ _ _, by omega, by omega, hw7, (heap7_other (by omega) _ _ _ _ _ _ _).trans T2.out, below7 HB5.out (by omega) _ _ _ _ _ _ _, hnx, by omega, (fun h => ⟨congrArg (·.1) (HWO.out _ HAC.out h).1, (HWO.out _ HAC.out h).2⟩), (fun h => by obtain ⟨f, h1, h2, h3⟩ := HWN.out _ HAC.out h; exact ⟨HNO.out h, h2, f, h1, h3⟩)⟩, ?_⟩
            rw [wayLeft_is hw7, wayLeft_is X6.out]
            cases oo <;> simp <;> omega
          · have hlr : lineR L f1 t v = L := by unfold lineR; rw [if_neg hok]
            have HO := Lib.hid (fun W => (refvorder_any ((F : Int) % 16) ((t : Int) - (f1 : Int)) W (by omega) (by omega)).mono (R' := fun e w' => e = .returned (.tuple #[.slice none 0 0, .bool false]) ∧ Below W.heap.size W w') (by
              rintro e w' (⟨h1, _⟩ | ⟨_, h2, h3⟩)
              · rw [HM16.out, ← HV.out] at h1; exact absurd h1 hok
              · exact ⟨h2, h3⟩))
            rw [hlr] at HAC
            clear hok hlr
            go_wp2_with (first
              | (go_at_call 36; (with_reducible refine HNX1.out.mono ?_); rintro e w2 ⟨rfl, hb2⟩; have y6 := (hb2.block _ l6).trans X6.out; have q6 := (fun o => cell_of_heap y6 o); have ly6 := (Array.getElem?_eq_some_iff.1 y6).1; have Y6 := Lib.hid y6; have Y2 := Lib.hid ((hb2.block _ l2).trans X2.out); have HB2 := Lib.hid (HB.out.trans (hb2.mono hzr)); have HH2 := Lib.hid (HHX.out.below hb2); simp only [wayA] at q6; rw [show ((0 : Nat) : Int) = 0 from rfl] at q6; clear hb2 y6)
              | (go_at_call 37; (with_reducible refine (HO.out _).mono ?_); rintro e w3 ⟨rfl, hb3⟩; have b23 := (balloc (brefl w2) (.cells #[.int .i64 (e0 : Nat), .int .i64 (F : Nat), .int .i64 (e2 : Nat), .int .i64 (e3 : Nat)] 55)).trans (hb3.mono (by simp)); have y9 : w3.heap[w2.heap.size]? = some (.cells #[.int .i64 (e0 : Nat), .int .i64 (F : Nat), .int .i64 (e2 : Nat), .int .i64 (e3 : Nat)] 55 (0, 0)) := (hb3.block _ (by simp)).trans ((heap_push _ _ _).trans (if_pos rfl)); have y6 := (b23.block _ ly6).trans Y6.out; have q6 := (fun o => cell_of_heap y6 o); have q9 := (fun o => cell_of_heap y9 o); have l36 := (Array.getElem?_eq_some_iff.1 y6).1; have l39 := (Array.getElem?_eq_some_iff.1 y9).1; have Z6 := Lib.hid y6; have Z9 := Lib.hid y9; have Z2 := Lib.hid ((b23.block _ (Array.getElem?_eq_some_iff.1 Y2.out).1).trans Y2.out); have HB3 := Lib.hid (HB2.out.trans (b23.mono HB2.out.size)); have HH3 := Lib.hid (HH2.out.below b23); simp only [wayA] at q6; rw [show ((0 : Nat) : Int) = 0 from rfl] at q6; clear hb3 b23 y6 y9)
              | (go_at_call 39; (with_reducible refine (HGO.out _).mono ?_); rintro e w5 ⟨rfl, hb5⟩; have y6 := (hb5.block _ l36).trans Z6.out; have q6 := (fun o => cell_of_heap y6 o); have f6 := (fun o => froz_of_heap y6 o); have l56 := (Array.getElem?_eq_some_iff.1 y6).1; have T6 := Lib.hid y6; have T2 := Lib.hid ((hb5.block _ (Array.getElem?_eq_some_iff.1 Z2.out).1).trans Z2.out); have HB5 := Lib.hid (HB3.out.trans (hb5.mono HB3.out.size)); have HH5 := Lib.hid (HH3.out.below hb5); simp only [wayA] at q6; rw [show ((0 : Nat) : Int) = 0 from rfl] at q6; clear hb5 y6))
            have hw7 := show _ = some (Obj.cells (wayA e0 oz (st + 1) orr M oo oc) _ _) from heap7_at T6.out (.int .i64 (e0 : Nat)) (.int .i64 (oz : Nat)) (.int .i64 ((st : Int) + 1)) (.int .i64 (orr : Nat)) (.int .i64 (M : Nat)) (.bool oo) (.int .i64 (oc : Nat))
            refine ⟨⟨(L, f1, t), e0, oz, st + 1, orr, oc, oo, ax, cx, rfl, rfl, rfl, has7 HH5.out (fun hx => HNE.out (Nat.pos_of_ne_zero (by intro h0; apply hx; rw [List.eq_nil_iff_length_eq_zero.2 ((HLX.out).trans h0)]; rfl))) _ _ _ _ _ _ _, HLX.out, HXA.out, HNE.out, HIDX.out, by omega, by omega, hw7, (heap7_other (by omega) _ _ _ _ _ _ _).trans T2.out, below7 HB5.out (by omega) _ _ _ _ _ _ _, hnx, by omega, (fun h => ⟨congrArg (·.1) (HWO.out _ HAC.out h).1, (HWO.out _ HAC.out h).2⟩), (fun h => by obtain ⟨f, h1, h2, h3⟩ := HWN.out _ HAC.out h; exact ⟨HNO.out h, h2, f, h1, h3⟩)⟩, ?_⟩
            rw [wayLeft_is hw7, wayLeft_is X6.out]
            cases oo <;> simp <;> omega
      · by_cases hC : F / 8192 % 2 = 1
        · have d1 : decide ((32768 : Int) ≤ (F : Int)) = false := by simp; omega
          have d1n : decide (32768 ≤ F) = false := by simp; omega
          have d2 : ((F : Int) / 8192 % 2 == 1) = true := by simp; omega
          have e1 : firstR (L, f, t) z F = f := by unfold firstR; rw [if_neg hA]
          have e2' : lastR (L, f, t) z F = t1 := by unfold lastR; rw [if_pos hC]; exact HLX.out ▸ HT1.out.symm
          have HAC := Lib.hid (show actRx (L, f, t) z (e0, F, e2, e3) = ((lineR L f t1 v, f, t1), (z : Int), (z : Int) + 1) from by unfold actRx actR; rw [e1, e2', ← HV.out])
          clear e1 e2' hA hC
          by_cases hok : okV (v : Nat) ((t1 : Int) - (f : Int))
          · obtain ⟨vn, mn, hvn, hmn, g1, g2, g3⟩ := okV_pre hok
            obtain rfl : v = vn := by omega
            obtain ⟨m, hm⟩ : ∃ m, m = t1 - f := ⟨_, rfl⟩
            have hmz : (t1 : Int) - (f : Int) = (m : Nat) := by omega
            obtain rfl : m = mn := by omega
            have hol : (ordV v m).length = m := ordV_length _ _ hv16 g1 g3
            have HO := Lib.hid (fun W => refvorder_yes v m W (by omega) g1 hv16 g3 ((F : Int) % 16) ((t1 : Int) - (f : Int)) (by rw [HM16.out, ← HV.out]) hmz (refvorder_any _ _ W (by omega) (by omega)))
            have HRW := Lib.hid (fun ai ci W (h1 : Has W ax (gv L)) (hg : w1.heap.size < W.heap.size) (hi : Has W ai (iv (ordV v m))) => refrow_any w1.heap.size ax nl cx L f t1 v ai ci W h1 HLX.out HXA.out HNE.out hg (hm ▸ hi) (hm ▸ hol) (by omega) (by omega) (by omega) hok m hm)
            clear hok hvn hmn hm hol g1 g2 g3 hmz
            go_wp2_with (first
              | (go_at_call 36; (with_reducible refine HNX1.out.mono ?_); rintro e w2 ⟨rfl, hb2⟩; have y6 := (hb2.block _ l6).trans X6.out; have q6 := (fun o => cell_of_heap y6 o); have ly6 := (Array.getElem?_eq_some_iff.1 y6).1; have Y6 := Lib.hid y6; have Y2 := Lib.hid ((hb2.block _ l2).trans X2.out); have HB2 := Lib.hid (HB.out.trans (hb2.mono hzr)); have HH2 := Lib.hid (HHX.out.below hb2); simp only [wayA] at q6; rw [show ((0 : Nat) : Int) = 0 from rfl] at q6; clear hb2 y6)
              | (go_at_call 37; (with_reducible refine (HO.out _).mono ?_); rintro e w3 ⟨ai, ci, rfl, hi, _, _, _, hb3⟩; have HI := Lib.hid hi; clear hi; have b23 := (balloc (brefl w2) (.cells #[.int .i64 (e0 : Nat), .int .i64 (F : Nat), .int .i64 (e2 : Nat), .int .i64 (e3 : Nat)] 55)).trans (hb3.mono (by simp)); have y9 : w3.heap[w2.heap.size]? = some (.cells #[.int .i64 (e0 : Nat), .int .i64 (F : Nat), .int .i64 (e2 : Nat), .int .i64 (e3 : Nat)] 55 (0, 0)) := (hb3.block _ (by simp)).trans ((heap_push _ _ _).trans (if_pos rfl)); have y6 := (b23.block _ ly6).trans Y6.out; have q6 := (fun o => cell_of_heap y6 o); have q9 := (fun o => cell_of_heap y9 o); have l36 := (Array.getElem?_eq_some_iff.1 y6).1; have l39 := (Array.getElem?_eq_some_iff.1 y9).1; have Z6 := Lib.hid y6; have Z9 := Lib.hid y9; have Z2 := Lib.hid ((b23.block _ (Array.getElem?_eq_some_iff.1 Y2.out).1).trans Y2.out); have HB3 := Lib.hid (HB2.out.trans (b23.mono HB2.out.size)); have HH3 := Lib.hid (HH2.out.below b23); simp only [wayA] at q6; rw [show ((0 : Nat) : Int) = 0 from rfl] at q6; clear hb3 b23 y6 y9)
              | (go_at_call 38; (with_reducible refine (HRW.out _ _ _ HH3.out l36 HI.out).mono ?_); rintro e w4 ⟨bb, a4, c4, rfl, hh4, ha4, hn4, hb4⟩; have y6 := (hb4.block _ l36).trans Z6.out; have q6 := (fun o => cell_of_heap y6 o); have y9 := (hb4.block _ l39).trans Z9.out; have q9 := (fun o => cell_of_heap y9 o); have l46 := (Array.getElem?_eq_some_iff.1 y6).1; have l49 := (Array.getElem?_eq_some_iff.1 y9).1; have U6 := Lib.hid y6; have U2 := Lib.hid ((hb4.block _ (Array.getElem?_eq_some_iff.1 Z2.out).1).trans Z2.out); have HB4 := Lib.hid (HB3.out.trans (hb4.mono HB3.out.size)); have HH4 := Lib.hid hh4; have HA4 := Lib.hid ha4; have HN4 := Lib.hid hn4; simp only [wayA] at q6; rw [show ((0 : Nat) : Int) = 0 from rfl] at q6; clear hh4 ha4 hn4 hb4 y6 y9)
              | (go_at_call 39; (with_reducible refine (HGO.out _).mono ?_); rintro e w5 ⟨rfl, hb5⟩; have y6 := (hb5.block _ l46).trans U6.out; have q6 := (fun o => cell_of_heap y6 o); have f6 := (fun o => froz_of_heap y6 o); have l56 := (Array.getElem?_eq_some_iff.1 y6).1; have T6 := Lib.hid y6; have T2 := Lib.hid ((hb5.block _ (Array.getElem?_eq_some_iff.1 U2.out).1).trans U2.out); have HB5 := Lib.hid (HB4.out.trans (hb5.mono HB4.out.size)); have HH5 := Lib.hid (HH4.out.below hb5); simp only [wayA] at q6; rw [show ((0 : Nat) : Int) = 0 from rfl] at q6; clear hb5 y6))
            have hw7 := show _ = some (Obj.cells (wayA e0 oz (st + 1) orr M oo oc) _ _) from heap7_at T6.out (.int .i64 (e0 : Nat)) (.int .i64 (oz : Nat)) (.int .i64 ((st : Int) + 1)) (.int .i64 (orr : Nat)) (.int .i64 (M : Nat)) (.bool oo) (.int .i64 (oc : Nat))
            refine ⟨⟨(lineR L f t1 v, f, t1), e0, oz, st + 1, orr, oc, oo, a4, c4, rfl, rfl, rfl, has7 HH5.out (fun hx => HN4.out (Nat.pos_of_ne_zero (by intro h0; apply hx; rw [List.eq_nil_iff_length_eq_zero.2 (((lineR_length _ _ _ _).trans HLX.out).trans h0)]; rfl))) _ _ _ _ _ _ _, (lineR_length _ _ _ _).trans HLX.out, HA4.out, HN4.out, lineR_ids HIDX.out _ _ _, by omega, by omega, hw7, (heap7_other (by omega) _ _ _ _ _ _ _).trans T2.out, below7 HB5.out (by omega) _ _ _ _ _ _ _, hnx, by omega, (fun h => ⟨congrArg (·.1) (HWO.out _ HAC.out h).1, (HWO.out _ HAC.out h).2⟩), (fun h => by obtain ⟨f, h1, h2, h3⟩ := HWN.out _ HAC.out h; exact ⟨HNO.out h, h2, f, h1, h3⟩)⟩, ?_⟩
            rw [wayLeft_is hw7, wayLeft_is X6.out]
            cases oo <;> simp <;> omega
          · have hlr : lineR L f t1 v = L := by unfold lineR; rw [if_neg hok]
            have HO := Lib.hid (fun W => (refvorder_any ((F : Int) % 16) ((t1 : Int) - (f : Int)) W (by omega) (by omega)).mono (R' := fun e w' => e = .returned (.tuple #[.slice none 0 0, .bool false]) ∧ Below W.heap.size W w') (by
              rintro e w' (⟨h1, _⟩ | ⟨_, h2, h3⟩)
              · rw [HM16.out, ← HV.out] at h1; exact absurd h1 hok
              · exact ⟨h2, h3⟩))
            rw [hlr] at HAC
            clear hok hlr
            go_wp2_with (first
              | (go_at_call 36; (with_reducible refine HNX1.out.mono ?_); rintro e w2 ⟨rfl, hb2⟩; have y6 := (hb2.block _ l6).trans X6.out; have q6 := (fun o => cell_of_heap y6 o); have ly6 := (Array.getElem?_eq_some_iff.1 y6).1; have Y6 := Lib.hid y6; have Y2 := Lib.hid ((hb2.block _ l2).trans X2.out); have HB2 := Lib.hid (HB.out.trans (hb2.mono hzr)); have HH2 := Lib.hid (HHX.out.below hb2); simp only [wayA] at q6; rw [show ((0 : Nat) : Int) = 0 from rfl] at q6; clear hb2 y6)
              | (go_at_call 37; (with_reducible refine (HO.out _).mono ?_); rintro e w3 ⟨rfl, hb3⟩; have b23 := (balloc (brefl w2) (.cells #[.int .i64 (e0 : Nat), .int .i64 (F : Nat), .int .i64 (e2 : Nat), .int .i64 (e3 : Nat)] 55)).trans (hb3.mono (by simp)); have y9 : w3.heap[w2.heap.size]? = some (.cells #[.int .i64 (e0 : Nat), .int .i64 (F : Nat), .int .i64 (e2 : Nat), .int .i64 (e3 : Nat)] 55 (0, 0)) := (hb3.block _ (by simp)).trans ((heap_push _ _ _).trans (if_pos rfl)); have y6 := (b23.block _ ly6).trans Y6.out; have q6 := (fun o => cell_of_heap y6 o); have q9 := (fun o => cell_of_heap y9 o); have l36 := (Array.getElem?_eq_some_iff.1 y6).1; have l39 := (Array.getElem?_eq_some_iff.1 y9).1; have Z6 := Lib.hid y6; have Z9 := Lib.hid y9; have Z2 := Lib.hid ((b23.block _ (Array.getElem?_eq_some_iff.1 Y2.out).1).trans Y2.out); have HB3 := Lib.hid (HB2.out.trans (b23.mono HB2.out.size)); have HH3 := Lib.hid (HH2.out.below b23); simp only [wayA] at q6; rw [show ((0 : Nat) : Int) = 0 from rfl] at q6; clear hb3 b23 y6 y9)
              | (go_at_call 39; (with_reducible refine (HGO.out _).mono ?_); rintro e w5 ⟨rfl, hb5⟩; have y6 := (hb5.block _ l36).trans Z6.out; have q6 := (fun o => cell_of_heap y6 o); have f6 := (fun o => froz_of_heap y6 o); have l56 := (Array.getElem?_eq_some_iff.1 y6).1; have T6 := Lib.hid y6; have T2 := Lib.hid ((hb5.block _ (Array.getElem?_eq_some_iff.1 Z2.out).1).trans Z2.out); have HB5 := Lib.hid (HB3.out.trans (hb5.mono HB3.out.size)); have HH5 := Lib.hid (HH3.out.below hb5); simp only [wayA] at q6; rw [show ((0 : Nat) : Int) = 0 from rfl] at q6; clear hb5 y6))
            have hw7 := show _ = some (Obj.cells (wayA e0 oz (st + 1) orr M oo oc) _ _) from heap7_at T6.out (.int .i64 (e0 : Nat)) (.int .i64 (oz : Nat)) (.int .i64 ((st : Int) + 1)) (.int .i64 (orr : Nat)) (.int .i64 (M : Nat)) (.bool oo) (.int .i64 (oc : Nat))
            refine ⟨⟨(L, f, t1), e0, oz, st + 1, orr, oc, oo, ax, cx, rfl, rfl, rfl, has7 HH5.out (fun hx => HNE.out (Nat.pos_of_ne_zero (by intro h0; apply hx; rw [List.eq_nil_iff_length_eq_zero.2 ((HLX.out).trans h0)]; rfl))) _ _ _ _ _ _ _, HLX.out, HXA.out, HNE.out, HIDX.out, by omega, by omega, hw7, (heap7_other (by omega) _ _ _ _ _ _ _).trans T2.out, below7 HB5.out (by omega) _ _ _ _ _ _ _, hnx, by omega, (fun h => ⟨congrArg (·.1) (HWO.out _ HAC.out h).1, (HWO.out _ HAC.out h).2⟩), (fun h => by obtain ⟨f, h1, h2, h3⟩ := HWN.out _ HAC.out h; exact ⟨HNO.out h, h2, f, h1, h3⟩)⟩, ?_⟩
            rw [wayLeft_is hw7, wayLeft_is X6.out]
            cases oo <;> simp <;> omega
        · have d1 : decide ((32768 : Int) ≤ (F : Int)) = false := by simp; omega
          have d1n : decide (32768 ≤ F) = false := by simp; omega
          have d2 : ((F : Int) / 8192 % 2 == 1) = false := by simp; omega
          have e1 : firstR (L, f, t) z F = f := by unfold firstR; rw [if_neg hA]
          have e2' : lastR (L, f, t) z F = t := by unfold lastR; rw [if_neg hC]
          have HAC := Lib.hid (show actRx (L, f, t) z (e0, F, e2, e3) = ((lineR L f t v, f, t), (z : Int), (z : Int) + 1) from by unfold actRx actR; rw [e1, e2', ← HV.out])
          clear e1 e2' hA hC
          by_cases hok : okV (v : Nat) ((t : Int) - (f : Int))
          · obtain ⟨vn, mn, hvn, hmn, g1, g2, g3⟩ := okV_pre hok
            obtain rfl : v = vn := by omega
            obtain ⟨m, hm⟩ : ∃ m, m = t - f := ⟨_, rfl⟩
            have hmz : (t : Int) - (f : Int) = (m : Nat) := by omega
            obtain rfl : m = mn := by omega
            have hol : (ordV v m).length = m := ordV_length _ _ hv16 g1 g3
            have HO := Lib.hid (fun W => refvorder_yes v m W (by omega) g1 hv16 g3 ((F : Int) % 16) ((t : Int) - (f : Int)) (by rw [HM16.out, ← HV.out]) hmz (refvorder_any _ _ W (by omega) (by omega)))
            have HRW := Lib.hid (fun ai ci W (h1 : Has W ax (gv L)) (hg : w1.heap.size < W.heap.size) (hi : Has W ai (iv (ordV v m))) => refrow_any w1.heap.size ax nl cx L f t v ai ci W h1 HLX.out HXA.out HNE.out hg (hm ▸ hi) (hm ▸ hol) (by omega) (by omega) (by omega) hok m hm)
            clear hok hvn hmn hm hol g1 g2 g3 hmz
            go_wp2_with (first
              | (go_at_call 36; (with_reducible refine HNX1.out.mono ?_); rintro e w2 ⟨rfl, hb2⟩; have y6 := (hb2.block _ l6).trans X6.out; have q6 := (fun o => cell_of_heap y6 o); have ly6 := (Array.getElem?_eq_some_iff.1 y6).1; have Y6 := Lib.hid y6; have Y2 := Lib.hid ((hb2.block _ l2).trans X2.out); have HB2 := Lib.hid (HB.out.trans (hb2.mono hzr)); have HH2 := Lib.hid (HHX.out.below hb2); simp only [wayA] at q6; rw [show ((0 : Nat) : Int) = 0 from rfl] at q6; clear hb2 y6)
              | (go_at_call 37; (with_reducible refine (HO.out _).mono ?_); rintro e w3 ⟨ai, ci, rfl, hi, _, _, _, hb3⟩; have HI := Lib.hid hi; clear hi; have b23 := (balloc (brefl w2) (.cells #[.int .i64 (e0 : Nat), .int .i64 (F : Nat), .int .i64 (e2 : Nat), .int .i64 (e3 : Nat)] 55)).trans (hb3.mono (by simp)); have y9 : w3.heap[w2.heap.size]? = some (.cells #[.int .i64 (e0 : Nat), .int .i64 (F : Nat), .int .i64 (e2 : Nat), .int .i64 (e3 : Nat)] 55 (0, 0)) := (hb3.block _ (by simp)).trans ((heap_push _ _ _).trans (if_pos rfl)); have y6 := (b23.block _ ly6).trans Y6.out; have q6 := (fun o => cell_of_heap y6 o); have q9 := (fun o => cell_of_heap y9 o); have l36 := (Array.getElem?_eq_some_iff.1 y6).1; have l39 := (Array.getElem?_eq_some_iff.1 y9).1; have Z6 := Lib.hid y6; have Z9 := Lib.hid y9; have Z2 := Lib.hid ((b23.block _ (Array.getElem?_eq_some_iff.1 Y2.out).1).trans Y2.out); have HB3 := Lib.hid (HB2.out.trans (b23.mono HB2.out.size)); have HH3 := Lib.hid (HH2.out.below b23); simp only [wayA] at q6; rw [show ((0 : Nat) : Int) = 0 from rfl] at q6; clear hb3 b23 y6 y9)
              | (go_at_call 38; (with_reducible refine (HRW.out _ _ _ HH3.out l36 HI.out).mono ?_); rintro e w4 ⟨bb, a4, c4, rfl, hh4, ha4, hn4, hb4⟩; have y6 := (hb4.block _ l36).trans Z6.out; have q6 := (fun o => cell_of_heap y6 o); have y9 := (hb4.block _ l39).trans Z9.out; have q9 := (fun o => cell_of_heap y9 o); have l46 := (Array.getElem?_eq_some_iff.1 y6).1; have l49 := (Array.getElem?_eq_some_iff.1 y9).1; have U6 := Lib.hid y6; have U2 := Lib.hid ((hb4.block _ (Array.getElem?_eq_some_iff.1 Z2.out).1).trans Z2.out); have HB4 := Lib.hid (HB3.out.trans (hb4.mono HB3.out.size)); have HH4 := Lib.hid hh4; have HA4 := Lib.hid ha4; have HN4 := Lib.hid hn4; simp only [wayA] at q6; rw [show ((0 : Nat) : Int) = 0 from rfl] at q6; clear hh4 ha4 hn4 hb4 y6 y9)
              | (go_at_call 39; (with_reducible refine (HGO.out _).mono ?_); rintro e w5 ⟨rfl, hb5⟩; have y6 := (hb5.block _ l46).trans U6.out; have q6 := (fun o => cell_of_heap y6 o); have f6 := (fun o => froz_of_heap y6 o); have l56 := (Array.getElem?_eq_some_iff.1 y6).1; have T6 := Lib.hid y6; have T2 := Lib.hid ((hb5.block _ (Array.getElem?_eq_some_iff.1 U2.out).1).trans U2.out); have HB5 := Lib.hid (HB4.out.trans (hb5.mono HB4.out.size)); have HH5 := Lib.hid (HH4.out.below hb5); simp only [wayA] at q6; rw [show ((0 : Nat) : Int) = 0 from rfl] at q6; clear hb5 y6))
            have hw7 := show _ = some (Obj.cells (wayA e0 oz (st + 1) orr M oo oc) _ _) from heap7_at T6.out (.int .i64 (e0 : Nat)) (.int .i64 (oz : Nat)) (.int .i64 ((st : Int) + 1)) (.int .i64 (orr : Nat)) (.int .i64 (M : Nat)) (.bool oo) (.int .i64 (oc : Nat))
            refine ⟨⟨(lineR L f t v, f, t), e0, oz, st + 1, orr, oc, oo, a4, c4, rfl, rfl, rfl, has7 HH5.out (fun hx => HN4.out (Nat.pos_of_ne_zero (by intro h0; apply hx; rw [List.eq_nil_iff_length_eq_zero.2 (((lineR_length _ _ _ _).trans HLX.out).trans h0)]; rfl))) _ _ _ _ _ _ _, (lineR_length _ _ _ _).trans HLX.out, HA4.out, HN4.out, lineR_ids HIDX.out _ _ _, by omega, by omega, hw7, (heap7_other (by omega) _ _ _ _ _ _ _).trans T2.out, below7 HB5.out (by omega) _ _ _ _ _ _ _, hnx, by omega, (fun h => ⟨congrArg (·.1) (HWO.out _ HAC.out h).1, (HWO.out _ HAC.out h).2⟩), (fun h => by obtain ⟨f, h1, h2, h3⟩ := HWN.out _ HAC.out h; exact ⟨HNO.out h, h2, f, h1, h3⟩)⟩, ?_⟩
            rw [wayLeft_is hw7, wayLeft_is X6.out]
            cases oo <;> simp <;> omega
          · have hlr : lineR L f t v = L := by unfold lineR; rw [if_neg hok]
            have HO := Lib.hid (fun W => (refvorder_any ((F : Int) % 16) ((t : Int) - (f : Int)) W (by omega) (by omega)).mono (R' := fun e w' => e = .returned (.tuple #[.slice none 0 0, .bool false]) ∧ Below W.heap.size W w') (by
              rintro e w' (⟨h1, _⟩ | ⟨_, h2, h3⟩)
              · rw [HM16.out, ← HV.out] at h1; exact absurd h1 hok
              · exact ⟨h2, h3⟩))
            rw [hlr] at HAC
            clear hok hlr
            go_wp2_with (first
              | (go_at_call 36; (with_reducible refine HNX1.out.mono ?_); rintro e w2 ⟨rfl, hb2⟩; have y6 := (hb2.block _ l6).trans X6.out; have q6 := (fun o => cell_of_heap y6 o); have ly6 := (Array.getElem?_eq_some_iff.1 y6).1; have Y6 := Lib.hid y6; have Y2 := Lib.hid ((hb2.block _ l2).trans X2.out); have HB2 := Lib.hid (HB.out.trans (hb2.mono hzr)); have HH2 := Lib.hid (HHX.out.below hb2); simp only [wayA] at q6; rw [show ((0 : Nat) : Int) = 0 from rfl] at q6; clear hb2 y6)
              | (go_at_call 37; (with_reducible refine (HO.out _).mono ?_); rintro e w3 ⟨rfl, hb3⟩; have b23 := (balloc (brefl w2) (.cells #[.int .i64 (e0 : Nat), .int .i64 (F : Nat), .int .i64 (e2 : Nat), .int .i64 (e3 : Nat)] 55)).trans (hb3.mono (by simp)); have y9 : w3.heap[w2.heap.size]? = some (.cells #[.int .i64 (e0 : Nat), .int .i64 (F : Nat), .int .i64 (e2 : Nat), .int .i64 (e3 : Nat)] 55 (0, 0)) := (hb3.block _ (by simp)).trans ((heap_push _ _ _).trans (if_pos rfl)); have y6 := (b23.block _ ly6).trans Y6.out; have q6 := (fun o => cell_of_heap y6 o); have q9 := (fun o => cell_of_heap y9 o); have l36 := (Array.getElem?_eq_some_iff.1 y6).1; have l39 := (Array.getElem?_eq_some_iff.1 y9).1; have Z6 := Lib.hid y6; have Z9 := Lib.hid y9; have Z2 := Lib.hid ((b23.block _ (Array.getElem?_eq_some_iff.1 Y2.out).1).trans Y2.out); have HB3 := Lib.hid (HB2.out.trans (b23.mono HB2.out.size)); have HH3 := Lib.hid (HH2.out.below b23); simp only [wayA] at q6; rw [show ((0 : Nat) : Int) = 0 from rfl] at q6; clear hb3 b23 y6 y9)
              | (go_at_call 39; (with_reducible refine (HGO.out _).mono ?_); rintro e w5 ⟨rfl, hb5⟩; have y6 := (hb5.block _ l36).trans Z6.out; have q6 := (fun o => cell_of_heap y6 o); have f6 := (fun o => froz_of_heap y6 o); have l56 := (Array.getElem?_eq_some_iff.1 y6).1; have T6 := Lib.hid y6; have T2 := Lib.hid ((hb5.block _ (Array.getElem?_eq_some_iff.1 Z2.out).1).trans Z2.out); have HB5 := Lib.hid (HB3.out.trans (hb5.mono HB3.out.size)); have HH5 := Lib.hid (HH3.out.below hb5); simp only [wayA] at q6; rw [show ((0 : Nat) : Int) = 0 from rfl] at q6; clear hb5 y6))
            have hw7 := show _ = some (Obj.cells (wayA e0 oz (st + 1) orr M oo oc) _ _) from heap7_at T6.out (.int .i64 (e0 : Nat)) (.int .i64 (oz : Nat)) (.int .i64 ((st : Int) + 1)) (.int .i64 (orr : Nat)) (.int .i64 (M : Nat)) (.bool oo) (.int .i64 (oc : Nat))
            refine ⟨⟨(L, f, t), e0, oz, st + 1, orr, oc, oo, ax, cx, rfl, rfl, rfl, has7 HH5.out (fun hx => HNE.out (Nat.pos_of_ne_zero (by intro h0; apply hx; rw [List.eq_nil_iff_length_eq_zero.2 ((HLX.out).trans h0)]; rfl))) _ _ _ _ _ _ _, HLX.out, HXA.out, HNE.out, HIDX.out, by omega, by omega, hw7, (heap7_other (by omega) _ _ _ _ _ _ _).trans T2.out, below7 HB5.out (by omega) _ _ _ _ _ _ _, hnx, by omega, (fun h => ⟨congrArg (·.1) (HWO.out _ HAC.out h).1, (HWO.out _ HAC.out h).2⟩), (fun h => by obtain ⟨f, h1, h2, h3⟩ := HWN.out _ HAC.out h; exact ⟨HNO.out h, h2, f, h1, h3⟩)⟩, ?_⟩
            rw [wayLeft_is hw7, wayLeft_is X6.out]
            cases oo <;> simp <;> omega
end Go.Proofs.YtlhnfpkenlenjaaDoor
end
