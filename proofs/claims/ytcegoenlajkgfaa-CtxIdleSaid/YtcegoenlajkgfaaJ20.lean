/- Joined from: DRef DWay KRef DRun. -/
import Derived.Test.YtcegoenlajkgfaaJ01
import Derived.Test.YtcegoenlajkgfaaJ15
import Derived.Test.YtcegoenlajkgfaaJ17
import Derived.Test.YtcegoenlajkgfaaJ16
import Derived.Test.YtcegoenlajkgfaaJ09
import Derived.Test.YtcegoenlajkgfaaJ08
section

/- The document's Begin, Next and Go: where a machine is on its way. Conditions: a machine in memory; sizes. -/
namespace Go.Proofs.Ytcegoenlajkgfaa
open Go.RowKit Go.Lib

/-- Where a machine is, as a value. -/
def wayA (s z st re most : Nat) (over : Bool) (code : Nat) : Array Value := #[.int .i64 (s : Nat), .int .i64 (z : Nat), .int .i64 (st : Nat), .int .i64 (re : Nat), .int .i64 (most : Nat), .bool over, .int .i64 (code : Nat)]
theorem refbegin_any (n : Nat) (w : World) (hn : n ≤ 1000000) :
    Calls Try.prog 50 #[.int .i64 (n : Nat)] w fun e w' => e = .returned (.agg (wayA 0 0 0 0 (2 * n + 128) false 0)) ∧ Below w.heap.size w w' := by
  have hAC := allocC
  have hAF := allocF
  go_enter Try.func50, Try.ntmps50
  go_wp2_with fail
  refine bodyPost_ret (v := .agg #[.int .i64 0, .int .i64 0, .int .i64 0, .int .i64 0, .int .i64 (2 * (n : Int) + 128), .bool false, .int .i64 0]) (by simp [results, Try.results50, go_sem, hAC, hAF]) rfl ?_
  exact ⟨rfl, blw⟩
set_option maxRecDepth 100000 in
set_option maxHeartbeats 3200000 in
theorem refnext_any (a : Option Addr) (n c : Nat) (bs : List UInt8) (glyphs k : Nat) (rs : List RP) (S : Nat) (a' : Option Addr) (c' : Nat) (s z st re most : Nat) (al : Option Addr) (nl cl : Nat) (l : List (Int × Int)) (w : World) (h : MRf a n c bs glyphs k rs S a' w) (hl : Has w al (gv l)) (hln : l.length = nl) (hids : ∀ p ∈ l, -9223372036854775808 ≤ p.1 ∧ p.1 ≤ 9223372036854775807) (hs : s < S) (hz : z ≤ 1000000000) :
    Calls Try.prog 51 #[.agg (mrefV a n c bs k rs S a' c'), .agg (wayA s z st re most false 0), .slice al nl cl] w fun e w' => e = .returned (.tuple #[entV4 (enM bs k s (clD bs rs l z)), .bool true]) ∧ Below w.heap.size w w' := by
  have hAC := allocC
  have hAF := allocF
  have HM := Lib.hid h
  have HH := Lib.hid hl
  have hC := clD_lt bs rs l z h.ok.cls.1
  have HST := Lib.hid (fun W (hW : Below w.heap.size w W) => show Calls Try.prog 76 #[.agg (mrefV a n c bs k rs S a' c'), .int .i64 (s : Nat), .int .i64 (clD bs rs l z : Nat)] W fun e w' => e = .returned (.tuple #[entV4 (enM bs k s (clD bs rs l z)), .bool true]) ∧ Below W.heap.size W w' from (HM.out.below hW).step c' s (clD bs rs l z) hs hC)
  unfold mrefV mrefA at *
  cases hg : l[z]? with
  | none =>
    have d0 : decide ((z : Int) < (nl : Int)) = false := by have := List.getElem?_eq_none_iff.1 hg; simp; omega
    have d1 : decide (z < nl) = false := by have := List.getElem?_eq_none_iff.1 hg; simp; omega
    rw [show clD bs rs l z = 0 by rw [clD, hg]] at HST ⊢
    rw [show ((0 : Nat) : Int) = 0 from rfl] at HST
    generalize enM bs k s 0 = E at *
    obtain ⟨e0, e1, e2, e3⟩ := E
    simp only [entV4] at HST ⊢
    clear h hl hids hC hg HM HH
    generalize num bs 0 4 = P0 at *
    generalize num bs 4 4 = P4 at *
    generalize num bs 8 4 = P8 at *
    generalize num bs 12 4 = P12 at *
    generalize needE bs S = NE at *
    generalize adv a c P4 = A4 at *
    generalize rs.length = L at *
    unfold wayA
    go_enter Try.func51, Try.ntmps51
    go_wp2_with fail
    obtain ⟨V, hV⟩ : ∃ V, V = ((w.alloc (Obj.cells #[.slice a n c, .int .i64 (P0 : Nat), .int .i64 (P8 : Nat), .int .i64 (P12 : Nat), .int .i64 (S : Nat), .int .i64 (NE : Nat), .int .i64 (k : Nat), .slice A4 (n - P4) (c - P4), .slice a' L c'] 42)).alloc (Obj.cells #[.int .i64 (s : Nat), .int .i64 (z : Nat), .int .i64 (st : Nat), .int .i64 (re : Nat), .int .i64 (most : Nat), .bool false, .int .i64 0] 108)).alloc (Obj.cells #[.int .i64 0, .int .i64 0, .int .i64 0, .int .i64 0] 60) := ⟨_, rfl⟩
    have hbV : Below w.heap.size w V := by rw [hV]; exact balloc (balloc (balloc (brefl w) _) _) _
    have hzV : V.heap.size = w.heap.size + 1 + 1 + 1 := by rw [hV]; simp
    have x3 : V.heap[w.heap.size]? = some (.cells #[.slice a n c, .int .i64 (P0 : Nat), .int .i64 (P8 : Nat), .int .i64 (P12 : Nat), .int .i64 (S : Nat), .int .i64 (NE : Nat), .int .i64 (k : Nat), .slice A4 (n - P4) (c - P4), .slice a' L c'] 42 (0, 0)) := by
      rw [hV, heap_push, if_neg (by simp only [World.size_alloc]; omega), heap_push, if_neg (by simp only [World.size_alloc]; omega), heap_push, if_pos rfl]
    have x4 : V.heap[w.heap.size + 1]? = some (.cells #[.int .i64 (s : Nat), .int .i64 (z : Nat), .int .i64 (st : Nat), .int .i64 (re : Nat), .int .i64 (most : Nat), .bool false, .int .i64 0] 108 (0, 0)) := by
      rw [hV, heap_push, if_neg (by simp only [World.size_alloc]; omega), heap_push, if_pos (by simp only [World.size_alloc])]
    have x6 : V.heap[w.heap.size + 1 + 1]? = some (.cells #[.int .i64 0, .int .i64 0, .int .i64 0, .int .i64 0] 60 (0, 0)) := by
      rw [hV, heap_push, if_pos (by simp only [World.size_alloc])]
    rw [← hV]
    have X3 := Lib.hid x3
    have X4 := Lib.hid x4
    have X6 := Lib.hid x6
    have q3 := fun o => cell_of_heap x3 o
    have q4 := fun o => cell_of_heap x4 o
    have HB := Lib.hid hbV
    have HB1 := Lib.hid hbV
    have Y6 := Lib.hid x6
    have l6 := (Array.getElem?_eq_some_iff.1 x6).1
    clear hV x3 x4 x6 hbV
    refine (HST.out V HB1.out).mono ?_
    rintro e w2 ⟨rfl, hb2⟩
    have hb12 := hb2
    have p6 := (hb12.block _ l6).trans Y6.out
    have q6 := (fun o => cell_of_heap p6 o)
    have f6 := (fun o => froz_of_heap p6 o)
    have l6' := (Array.getElem?_eq_some_iff.1 p6).1
    have HB2 := Lib.hid (HB1.out.trans (hb12.mono HB1.out.size))
    have hn6 : ¬ w2.heap.size = w.heap.size + 1 + 1 := (by omega)
    clear hb2 hb12 p6
    go_wp2_with fail
    refine bodyPost_ret (v := .tuple #[.agg #[.int .i64 (e0 : Nat), .int .i64 (e1 : Nat), .int .i64 (e2 : Nat), .int .i64 (e3 : Nat)], .bool true]) (by simp [results, Try.results51, go_sem, hAC, hAF, q6, f6, l6']) rfl ?_
    exact ⟨rfl, by have h0 := HB2.out; have h0z := h0.size; exact blw⟩
  | some p =>
    have hlt := (List.getElem?_eq_some_iff.1 hg).1
    have hzn : z < nl := by omega
    have d0 : decide ((z : Int) < (nl : Int)) = true := by simp; omega
    have d1 : decide (z < nl) = true := by simp; omega
    have d2 : decide (nl ≤ z) = false := by simp; omega
    have hp := hids p (List.mem_of_getElem? hg)
    obtain ⟨gi, oi, q, rfl, hgi, hq, hc1, hc2⟩ := gv_at HH.out (k := z) hlt
    obtain rfl : p = q := by rw [hg] at hq; injection hq
    have HCL := Lib.hid (fun W (hW : Below w.heap.size w W) => (HM.out.below hW).cls c' p.1 hp)
    rw [show clD bs rs l z = classM bs rs p.1 by rw [clD, hg]] at HST ⊢
    obtain ⟨p1, p2⟩ := p
    simp only at hc1 hc2 HCL HST ⊢
    generalize classM bs rs p1 = C at *
    generalize enM bs k s C = E at *
    obtain ⟨e0, e1, e2, e3⟩ := E
    simp only [entV4] at HST ⊢
    unfold mrefV mrefA at HCL
    clear h hl hids hC hg hq HM HH hlt hp
    generalize num bs 0 4 = P0 at *
    generalize num bs 4 4 = P4 at *
    generalize num bs 8 4 = P8 at *
    generalize num bs 12 4 = P12 at *
    generalize needE bs S = NE at *
    generalize adv a c P4 = A4 at *
    generalize rs.length = L at *
    unfold wayA
    go_enter Try.func51, Try.ntmps51
    go_wp2_with fail
    obtain ⟨V, hV⟩ : ∃ V, V = ((w.alloc (Obj.cells #[.slice a n c, .int .i64 (P0 : Nat), .int .i64 (P8 : Nat), .int .i64 (P12 : Nat), .int .i64 (S : Nat), .int .i64 (NE : Nat), .int .i64 (k : Nat), .slice A4 (n - P4) (c - P4), .slice a' L c'] 42)).alloc (Obj.cells #[.int .i64 (s : Nat), .int .i64 (z : Nat), .int .i64 (st : Nat), .int .i64 (re : Nat), .int .i64 (most : Nat), .bool false, .int .i64 0] 108)).alloc (Obj.cells #[.int .i64 0, .int .i64 0, .int .i64 0, .int .i64 0] 60) := ⟨_, rfl⟩
    have hbV : Below w.heap.size w V := by rw [hV]; exact balloc (balloc (balloc (brefl w) _) _) _
    have hzV : V.heap.size = w.heap.size + 1 + 1 + 1 := by rw [hV]; simp
    have x3 : V.heap[w.heap.size]? = some (.cells #[.slice a n c, .int .i64 (P0 : Nat), .int .i64 (P8 : Nat), .int .i64 (P12 : Nat), .int .i64 (S : Nat), .int .i64 (NE : Nat), .int .i64 (k : Nat), .slice A4 (n - P4) (c - P4), .slice a' L c'] 42 (0, 0)) := by
      rw [hV, heap_push, if_neg (by simp only [World.size_alloc]; omega), heap_push, if_neg (by simp only [World.size_alloc]; omega), heap_push, if_pos rfl]
    have x4 : V.heap[w.heap.size + 1]? = some (.cells #[.int .i64 (s : Nat), .int .i64 (z : Nat), .int .i64 (st : Nat), .int .i64 (re : Nat), .int .i64 (most : Nat), .bool false, .int .i64 0] 108 (0, 0)) := by
      rw [hV, heap_push, if_neg (by simp only [World.size_alloc]; omega), heap_push, if_pos (by simp only [World.size_alloc])]
    have x6 : V.heap[w.heap.size + 1 + 1]? = some (.cells #[.int .i64 0, .int .i64 0, .int .i64 0, .int .i64 0] 60 (0, 0)) := by
      rw [hV, heap_push, if_pos (by simp only [World.size_alloc])]
    rw [← hV]
    have X3 := Lib.hid x3
    have X4 := Lib.hid x4
    have X6 := Lib.hid x6
    have q3 := fun o => cell_of_heap x3 o
    have q4 := fun o => cell_of_heap x4 o
    have HB := Lib.hid hbV
    have hc1' := (hbV.cell (p := ⟨gi, oi + z * 2, none⟩) hgi).trans hc1
    have hgV : gi < V.heap.size := by omega
    clear hV hc1 hc2 x3 x4 x6 hbV
    refine wp_region_tree (.step 0 (.step 1 (.step 2 (.step 3 (.step 4 (.step 5 (.step 6 (.step 7 (.step 8 .nil))))))))) (by kernel_rfl) (by kernel_rfl) (by kernel_rfl) (by kernel_rfl) (by intro _ _ d_ _ _ h_; cases d_ <;> first | exact h_ | (dsimp +zetaDelta only at h_ ⊢; exact h_)) (fun w' => ∃ p : Wld V [], w' = p.val) (wld_start _ _) ?_
    have hG_ := @wldC V
    (refine tree_quiet gtA (by rfl) (by rfl) (fun K_ hK_ => ?_); go_big_quiet_op; refine hK_ _ ?_; clear hK_ K_)
    (refine tree_quiet gtA (by rfl) (by rfl) (fun K_ hK_ => ?_); go_big_quiet_op; refine hK_ _ ?_; clear hK_ K_)
    (refine tree_quiet gtA (by rfl) (by rfl) (fun K_ hK_ => ?_); go_big_quiet_op; refine hK_ _ ?_; clear hK_ K_)
    (refine tree_quiet gtA (by rfl) (by rfl) (fun K_ hK_ => ?_); go_big_quiet_op; refine hK_ _ ?_; clear hK_ K_)
    (refine tree_quiet gtA (by rfl) (by rfl) (fun K_ hK_ => ?_); go_big_quiet_op; refine hK_ _ ?_; clear hK_ K_)
    (refine tree_quiet gtA (by rfl) (by rfl) (fun K_ hK_ => ?_); go_big_quiet_op; refine hK_ _ ?_; clear hK_ K_)
    (refine tree_quiet gtA (by rfl) (by rfl) (fun K_ hK_ => ?_); go_big_quiet_op; refine hK_ _ ?_; clear hK_ K_)
    (refine tree_run gtA (by rfl) (by rfl) (fun K_ hK_ => ?_); have HK_ := Lib.hid hK_; clear hK_; go_wp2_with ((go_at_call 75; (with_reducible refine (HCL.out _ (HB.out.trans (Below.mono (w := V) (by exact blw) HB.out.size))).mono ?_); rintro e w1 ⟨rfl, hb1⟩)); refine HK_.out _ _ (wld_ofA) ?_; clear HK_)
    (refine tree_quiet gtA (by rfl) (by rfl) (fun K_ hK_ => ?_); go_big_quiet_op; refine hK_ _ ?_; clear hK_ K_)
    refine tree_nil ?_
    clear hG_
    have hb1 : Below V.heap.size V w1 := (by exact blw)
    have HB1 := Lib.hid (HB.out.trans (hb1.mono HB.out.size))
    have l6 := (Array.getElem?_eq_some_iff.1 X6.out).1
    have Y6 := Lib.hid ((hb1.block _ l6).trans X6.out)
    have Y3 := (hb1.block _ (Array.getElem?_eq_some_iff.1 X3.out).1).trans X3.out
    have Y4 := (hb1.block _ (Array.getElem?_eq_some_iff.1 X4.out).1).trans X4.out
    have l6 := (Array.getElem?_eq_some_iff.1 Y6.out).1
    have q3 := fun o => cell_of_heap Y3 o
    have q4 := fun o => cell_of_heap Y4 o
    clear Y3 Y4 hb1
    go_wp2_with (first | (go_at_call 76; (with_reducible refine (HST.out _ HB1.out).mono ?_); rintro e w2 ⟨rfl, hb2⟩; have hb12 := hb2; have p6 := (hb12.block _ l6).trans Y6.out; have q6 := (fun o => cell_of_heap p6 o); have f6 := (fun o => froz_of_heap p6 o); have l6' := (Array.getElem?_eq_some_iff.1 p6).1; have HB2 := Lib.hid (HB1.out.trans (hb12.mono HB1.out.size)); have hn6 : ¬ w2.heap.size = w.heap.size + 1 + 1 := (by omega); clear hb2 hb12 p6))
    refine bodyPost_ret (v := .tuple #[.agg #[.int .i64 (e0 : Nat), .int .i64 (e1 : Nat), .int .i64 (e2 : Nat), .int .i64 (e3 : Nat)], .bool true]) (by simp [results, Try.results51, go_sem, hAC, hAF, q6, f6, l6']) rfl ?_
    exact ⟨rfl, by have h0 := HB2.out; have h0z := h0.size; exact blw⟩
/-- Where it is behind a step. -/
def goZ (e : Ent) (stay on : Int) : Nat := (max (if e.2.1 / 2 ^ 14 % 2 = 1 then stay else on) 0).toNat
def goR (e : Ent) (re : Nat) : Nat := if e.2.1 / 2 ^ 14 % 2 = 1 then re + 1 else 0
def goO (e : Ent) (z st re most n : Nat) : Bool := if e.2.1 / 2 ^ 14 % 2 = 1 then decide (most ≤ st + 1) || decide (64 < re + 1) else decide (n ≤ z) || decide (most ≤ st + 1)
def goC (e : Ent) (z st re most n : Nat) : Nat := if e.2.1 / 2 ^ 14 % 2 = 1 then (if most ≤ st + 1 ∨ 64 < re + 1 then 4 else 0) else if n ≤ z then 0 else if most ≤ st + 1 then 4 else 0
set_option maxRecDepth 100000 in
set_option maxHeartbeats 3200000 in
theorem refgo_any (e : Ent) (s z st re most n : Nat) (stay on : Int) (w : World) (hF : e.2.1 ≤ 65535) (hst : st ≤ 1000000000) (hre : re ≤ 1000000000) :
    Calls Try.prog 53 #[.agg (wayA s z st re most false 0), entV4 e, .int .i64 (n : Nat), .int .i64 stay, .int .i64 on] w fun r w' => r = .returned (.agg (wayA e.1 (goZ e stay on) (st + 1) (goR e re) most (goO e z st re most n) (goC e z st re most n))) ∧ Below w.heap.size w w' := by
  have hAC := allocC
  have hAF := allocF
  obtain ⟨e0, F, e2, e3⟩ := e
  simp only at hF
  simp only [entV4]
  by_cases hA : F / 2 ^ 14 % 2 = 1
  · have dA : ((F : Int) / 16384 % 2 == 1) = true := by simp; omega
    rw [show goZ (e0, F, e2, e3) stay on = (max stay 0).toNat by unfold goZ; rw [if_pos hA], show goR (e0, F, e2, e3) re = re + 1 by unfold goR; rw [if_pos hA]]
    rw [show goO (e0, F, e2, e3) z st re most n = (decide (most ≤ st + 1) || decide (64 < re + 1)) by unfold goO; rw [if_pos hA], show goC (e0, F, e2, e3) z st re most n = if most ≤ st + 1 ∨ 64 < re + 1 then 4 else 0 by unfold goC; rw [if_pos hA]]
    clear hA
    by_cases h0 : stay < 0
    · have d0 : decide (stay < 0) = true := by simpa using h0
      rw [show (max stay 0).toNat = 0 by omega]
      clear h0
      by_cases hm : most ≤ st + 1
      · have d1 : decide ((most : Int) ≤ (st : Int) + 1) = true := by simp; omega
        rw [decide_eq_true hm, Bool.true_or, if_pos (.inl hm)]
        clear hm
        unfold wayA
        go_enter Try.func53, Try.ntmps53
        go_wp2_with fail
        exact bodyPost_ret (v := .agg #[.int .i64 (e0 : Nat), .int .i64 0, .int .i64 ((st : Int) + 1), .int .i64 ((re : Int) + 1), .int .i64 (most : Nat), .bool true, .int .i64 4]) (by simp [results, Try.results53, go_sem, hAC, hAF]) rfl ⟨rfl, blw⟩
      have d1 : decide ((most : Int) ≤ (st : Int) + 1) = false := by simp; omega
      by_cases hr : 64 < re + 1
      · have d2 : decide ((64 : Int) < (re : Int) + 1) = true := by simp; omega
        rw [decide_eq_true hr, Bool.or_true, if_pos (.inr hr)]
        clear hm hr
        unfold wayA
        go_enter Try.func53, Try.ntmps53
        go_wp2_with fail
        exact bodyPost_ret (v := .agg #[.int .i64 (e0 : Nat), .int .i64 0, .int .i64 ((st : Int) + 1), .int .i64 ((re : Int) + 1), .int .i64 (most : Nat), .bool true, .int .i64 4]) (by simp [results, Try.results53, go_sem, hAC, hAF]) rfl ⟨rfl, blw⟩
      have d2 : decide ((64 : Int) < (re : Int) + 1) = false := by simp; omega
      rw [decide_eq_false hm, decide_eq_false hr, Bool.or_false, if_neg (by omega)]
      clear hm hr
      unfold wayA
      go_enter Try.func53, Try.ntmps53
      go_wp2_with fail
      exact bodyPost_ret (v := .agg #[.int .i64 (e0 : Nat), .int .i64 0, .int .i64 ((st : Int) + 1), .int .i64 ((re : Int) + 1), .int .i64 (most : Nat), .bool false, .int .i64 0]) (by simp [results, Try.results53, go_sem, hAC, hAF]) rfl ⟨rfl, blw⟩
    · obtain ⟨p, rfl⟩ : ∃ p : Nat, stay = p := ⟨stay.toNat, by omega⟩
      have d0 : decide ((p : Int) < 0) = false := by simp
      rw [show (max (p : Int) 0).toNat = p by omega]
      clear h0
      by_cases hm : most ≤ st + 1
      · have d1 : decide ((most : Int) ≤ (st : Int) + 1) = true := by simp; omega
        rw [decide_eq_true hm, Bool.true_or, if_pos (.inl hm)]
        clear hm
        unfold wayA
        go_enter Try.func53, Try.ntmps53
        go_wp2_with fail
        exact bodyPost_ret (v := .agg #[.int .i64 (e0 : Nat), .int .i64 (p : Nat), .int .i64 ((st : Int) + 1), .int .i64 ((re : Int) + 1), .int .i64 (most : Nat), .bool true, .int .i64 4]) (by simp [results, Try.results53, go_sem, hAC, hAF]) rfl ⟨rfl, blw⟩
      have d1 : decide ((most : Int) ≤ (st : Int) + 1) = false := by simp; omega
      by_cases hr : 64 < re + 1
      · have d2 : decide ((64 : Int) < (re : Int) + 1) = true := by simp; omega
        rw [decide_eq_true hr, Bool.or_true, if_pos (.inr hr)]
        clear hm hr
        unfold wayA
        go_enter Try.func53, Try.ntmps53
        go_wp2_with fail
        exact bodyPost_ret (v := .agg #[.int .i64 (e0 : Nat), .int .i64 (p : Nat), .int .i64 ((st : Int) + 1), .int .i64 ((re : Int) + 1), .int .i64 (most : Nat), .bool true, .int .i64 4]) (by simp [results, Try.results53, go_sem, hAC, hAF]) rfl ⟨rfl, blw⟩
      have d2 : decide ((64 : Int) < (re : Int) + 1) = false := by simp; omega
      rw [decide_eq_false hm, decide_eq_false hr, Bool.or_false, if_neg (by omega)]
      clear hm hr
      unfold wayA
      go_enter Try.func53, Try.ntmps53
      go_wp2_with fail
      exact bodyPost_ret (v := .agg #[.int .i64 (e0 : Nat), .int .i64 (p : Nat), .int .i64 ((st : Int) + 1), .int .i64 ((re : Int) + 1), .int .i64 (most : Nat), .bool false, .int .i64 0]) (by simp [results, Try.results53, go_sem, hAC, hAF]) rfl ⟨rfl, blw⟩
  · have dA : ((F : Int) / 16384 % 2 == 1) = false := by simp; omega
    rw [show goZ (e0, F, e2, e3) stay on = (max on 0).toNat by unfold goZ; rw [if_neg hA], show goR (e0, F, e2, e3) re = 0 by unfold goR; rw [if_neg hA]]
    rw [show goO (e0, F, e2, e3) z st re most n = (decide (n ≤ z) || decide (most ≤ st + 1)) by unfold goO; rw [if_neg hA], show goC (e0, F, e2, e3) z st re most n = if n ≤ z then 0 else if most ≤ st + 1 then 4 else 0 by unfold goC; rw [if_neg hA]]
    clear hA
    by_cases h0 : on < 0
    · have d0 : decide (on < 0) = true := by simpa using h0
      rw [show (max on 0).toNat = 0 by omega]
      clear h0
      by_cases hz : n ≤ z
      · have d1 : decide ((n : Int) ≤ (z : Int)) = true := by simp; omega
        have d3 : decide (n ≤ z) = true := by simp; omega
        rw [decide_eq_true hz, Bool.true_or, if_pos hz]
        clear hz
        unfold wayA
        go_enter Try.func53, Try.ntmps53
        go_wp2_with fail
        exact bodyPost_ret (v := .agg #[.int .i64 (e0 : Nat), .int .i64 0, .int .i64 ((st : Int) + 1), .int .i64 0, .int .i64 (most : Nat), .bool true, .int .i64 0]) (by simp [results, Try.results53, go_sem, hAC, hAF]) rfl ⟨rfl, blw⟩
      have d1 : decide ((n : Int) ≤ (z : Int)) = false := by simp; omega
      have d3 : decide (n ≤ z) = false := by simp; omega
      by_cases hm : most ≤ st + 1
      · have d2 : decide ((most : Int) ≤ (st : Int) + 1) = true := by simp; omega
        rw [d3, decide_eq_true hm, Bool.or_true, if_neg hz, if_pos hm]
        clear hm hz
        unfold wayA
        go_enter Try.func53, Try.ntmps53
        go_wp2_with fail
        exact bodyPost_ret (v := .agg #[.int .i64 (e0 : Nat), .int .i64 0, .int .i64 ((st : Int) + 1), .int .i64 0, .int .i64 (most : Nat), .bool true, .int .i64 4]) (by simp [results, Try.results53, go_sem, hAC, hAF]) rfl ⟨rfl, blw⟩
      have d2 : decide ((most : Int) ≤ (st : Int) + 1) = false := by simp; omega
      rw [d3, decide_eq_false hm, Bool.or_false, if_neg hz, if_neg hm]
      clear hm hz
      unfold wayA
      go_enter Try.func53, Try.ntmps53
      go_wp2_with fail
      exact bodyPost_ret (v := .agg #[.int .i64 (e0 : Nat), .int .i64 0, .int .i64 ((st : Int) + 1), .int .i64 0, .int .i64 (most : Nat), .bool false, .int .i64 0]) (by simp [results, Try.results53, go_sem, hAC, hAF]) rfl ⟨rfl, blw⟩
    · obtain ⟨p, rfl⟩ : ∃ p : Nat, on = p := ⟨on.toNat, by omega⟩
      have d0 : decide ((p : Int) < 0) = false := by simp
      rw [show (max (p : Int) 0).toNat = p by omega]
      clear h0
      by_cases hz : n ≤ z
      · have d1 : decide ((n : Int) ≤ (z : Int)) = true := by simp; omega
        have d3 : decide (n ≤ z) = true := by simp; omega
        rw [decide_eq_true hz, Bool.true_or, if_pos hz]
        clear hz
        unfold wayA
        go_enter Try.func53, Try.ntmps53
        go_wp2_with fail
        exact bodyPost_ret (v := .agg #[.int .i64 (e0 : Nat), .int .i64 (p : Nat), .int .i64 ((st : Int) + 1), .int .i64 0, .int .i64 (most : Nat), .bool true, .int .i64 0]) (by simp [results, Try.results53, go_sem, hAC, hAF]) rfl ⟨rfl, blw⟩
      have d1 : decide ((n : Int) ≤ (z : Int)) = false := by simp; omega
      have d3 : decide (n ≤ z) = false := by simp; omega
      by_cases hm : most ≤ st + 1
      · have d2 : decide ((most : Int) ≤ (st : Int) + 1) = true := by simp; omega
        rw [d3, decide_eq_true hm, Bool.or_true, if_neg hz, if_pos hm]
        clear hm hz
        unfold wayA
        go_enter Try.func53, Try.ntmps53
        go_wp2_with fail
        exact bodyPost_ret (v := .agg #[.int .i64 (e0 : Nat), .int .i64 (p : Nat), .int .i64 ((st : Int) + 1), .int .i64 0, .int .i64 (most : Nat), .bool true, .int .i64 4]) (by simp [results, Try.results53, go_sem, hAC, hAF]) rfl ⟨rfl, blw⟩
      have d2 : decide ((most : Int) ≤ (st : Int) + 1) = false := by simp; omega
      rw [d3, decide_eq_false hm, Bool.or_false, if_neg hz, if_neg hm]
      clear hm hz
      unfold wayA
      go_enter Try.func53, Try.ntmps53
      go_wp2_with fail
      exact bodyPost_ret (v := .agg #[.int .i64 (e0 : Nat), .int .i64 (p : Nat), .int .i64 ((st : Int) + 1), .int .i64 0, .int .i64 (most : Nat), .bool false, .int .i64 0]) (by simp [results, Try.results53, go_sem, hAC, hAF]) rfl ⟨rfl, blw⟩
end Go.Proofs.Ytcegoenlajkgfaa
end
section

/- The document's way of a machine, told of the machine along a line as a function; seven stores into one block. No condition. -/
namespace Go.Proofs.Ytcegoenlajkgfaa
open Go.RowKit Go.Lib

/-- A step of the document's, told of the machine along a line as a function. -/
theorem way_over {X : Type} {cl : X → Nat → Nat} {en : Nat → Nat → Ent} {fin : X → Nat → Bool} {act : X → Nat → Ent → X × Int × Int} {fu : Nat} {x : X} {s z re st most n : Nat} {R : X × Nat × Nat} {E : Ent} {r : X × Int × Int}
    (hE : en s (cl x z) = E) (hr : act x z E = r) (hfin : fin x z = decide (n ≤ z)) (hfu : st + (fu + 1) = most) (h : runD cl en fin act (fu + 1) x s z re (st + 1) = R) (ho : goO E z st re most n = true) : r.1 = R.1 ∧ goC E z st re most n = R.2.2 := by
  unfold runD at h
  dsimp only at h
  rw [hE, hr] at h
  unfold goO at ho
  unfold goC
  by_cases hA : E.2.1 / 2 ^ 14 % 2 = 1
  · rw [if_pos hA] at h ho
    rw [if_pos hA]
    by_cases h64 : 64 < re + 1
    · rw [if_pos h64] at h
      rw [if_pos (.inr h64), ← h]
      exact ⟨rfl, rfl⟩
    · rw [if_neg h64] at h
      have hm : most ≤ st + 1 := by simpa [h64] using ho
      rw [if_pos (.inl hm)]
      obtain rfl : fu = 0 := by omega
      rw [runD] at h
      rw [← h]
      exact ⟨rfl, rfl⟩
  · rw [if_neg hA] at h ho
    rw [if_neg hA]
    by_cases hz : n ≤ z
    · rw [hfin, decide_eq_true hz, if_pos rfl] at h
      rw [if_pos hz, ← h]
      exact ⟨rfl, rfl⟩
    · rw [hfin, decide_eq_false hz, if_neg (by decide)] at h
      have hm : most ≤ st + 1 := by simpa [hz] using ho
      rw [if_neg hz, if_pos hm]
      obtain rfl : fu = 0 := by omega
      rw [runD] at h
      rw [← h]
      exact ⟨rfl, rfl⟩
theorem way_on {X : Type} {cl : X → Nat → Nat} {en : Nat → Nat → Ent} {fin : X → Nat → Bool} {act : X → Nat → Ent → X × Int × Int} {fu : Nat} {x : X} {s z re st most n : Nat} {R : X × Nat × Nat} {E : Ent} {r : X × Int × Int}
    (hE : en s (cl x z) = E) (hr : act x z E = r) (hfin : fin x z = decide (n ≤ z)) (hfu : st + (fu + 1) = most) (h : runD cl en fin act (fu + 1) x s z re (st + 1) = R) (ho : goO E z st re most n = false) :
    ∃ f, st + 1 + (f + 1) = most ∧ goR E re ≤ 64 ∧ runD cl en fin act (f + 1) r.1 E.1 (goZ E r.2.1 r.2.2) (goR E re) (st + 1 + 1) = R := by
  unfold runD at h
  dsimp only at h
  rw [hE, hr] at h
  unfold goO at ho
  unfold goR goZ
  by_cases hA : E.2.1 / 2 ^ 14 % 2 = 1
  · rw [if_pos hA] at h ho
    rw [if_pos hA, if_pos hA]
    have h64 : ¬ 64 < re + 1 := by intro h'; rw [decide_eq_true h', Bool.or_true] at ho; cases ho
    have hm : ¬ most ≤ st + 1 := by intro h'; rw [decide_eq_true h', Bool.true_or] at ho; cases ho
    rw [if_neg h64] at h
    obtain ⟨f, rfl⟩ : ∃ f, fu = f + 1 := ⟨fu - 1, by omega⟩
    exact ⟨f, by omega, by omega, h⟩
  · rw [if_neg hA] at h ho
    rw [if_neg hA, if_neg hA]
    have hz : ¬ n ≤ z := by intro h'; rw [decide_eq_true h', Bool.true_or] at ho; cases ho
    have hm : ¬ most ≤ st + 1 := by intro h'; rw [decide_eq_true h', Bool.or_true] at ho; cases ho
    rw [hfin, decide_eq_false hz, if_neg (by decide)] at h
    obtain ⟨f, rfl⟩ : ∃ f, fu = f + 1 := ⟨fu - 1, by omega⟩
    exact ⟨f, by omega, by omega, h⟩
theorem goC_zero (E : Ent) (z st re most n : Nat) (h : goO E z st re most n = false) : goC E z st re most n = 0 := by
  unfold goO at h
  unfold goC
  split at h
  · rename_i hA
    rw [if_pos hA]
    rw [if_neg]
    intro h'
    rcases h' with h' | h' <;> rw [decide_eq_true h'] at h <;> simp at h
  · rename_i hA
    rw [if_neg hA]
    by_cases hz : n ≤ z
    · rw [decide_eq_true hz] at h; simp at h
    · rw [if_neg hz, if_neg]
      intro h'
      rw [decide_eq_true h'] at h
      simp at h
theorem goZ_le (E : Ent) {stay on : Int} {b : Nat} (h1 : stay ≤ (b : Int)) (h2 : on ≤ (b : Int)) : goZ E stay on ≤ b := by
  unfold goZ
  split <;> omega
/-- Seven stores into one block. -/
theorem heap7_at {W : World} {g : Nat} {x0 x1 x2 x3 x4 x5 x6 : Value} {t : TypeId} (h : W.heap[g]? = some (.cells #[x0, x1, x2, x3, x4, x5, x6] t (0, 0))) (v0 v1 v2 v3 v4 v5 v6 : Value) :
    (((((((W.setCell ⟨g, 0, none⟩ v0).setCell ⟨g, 1, none⟩ v1).setCell ⟨g, 2, none⟩ v2).setCell ⟨g, 3, none⟩ v3).setCell ⟨g, 4, none⟩ v4).setCell ⟨g, 5, none⟩ v5).setCell ⟨g, 6, none⟩ v6).heap[g]? = some (.cells #[v0, v1, v2, v3, v4, v5, v6] t (0, 0)) := by
  have h := set_heap_at (o := 0) v0 h
  have h := set_heap_at (o := 1) v1 h
  have h := set_heap_at (o := 2) v2 h
  have h := set_heap_at (o := 3) v3 h
  have h := set_heap_at (o := 4) v4 h
  have h := set_heap_at (o := 5) v5 h
  have h := set_heap_at (o := 6) v6 h
  simpa using h
theorem heap7_other {W : World} {g k : Nat} (h : k ≠ g) (v0 v1 v2 v3 v4 v5 v6 : Value) :
    (((((((W.setCell ⟨g, 0, none⟩ v0).setCell ⟨g, 1, none⟩ v1).setCell ⟨g, 2, none⟩ v2).setCell ⟨g, 3, none⟩ v3).setCell ⟨g, 4, none⟩ v4).setCell ⟨g, 5, none⟩ v5).setCell ⟨g, 6, none⟩ v6).heap[k]? = W.heap[k]? := by
  rw [set_heap_other _ h, set_heap_other _ h, set_heap_other _ h, set_heap_other _ h, set_heap_other _ h, set_heap_other _ h, set_heap_other _ h]
theorem has7 {W : World} {a : Option Addr} {xs : List Value} (h : Has W a xs) {g : Nat} (hne : xs ≠ [] → ∀ p, a = some p → p.block ≠ g) (v0 v1 v2 v3 v4 v5 v6 : Value) :
    Has (((((((W.setCell ⟨g, 0, none⟩ v0).setCell ⟨g, 1, none⟩ v1).setCell ⟨g, 2, none⟩ v2).setCell ⟨g, 3, none⟩ v3).setCell ⟨g, 4, none⟩ v4).setCell ⟨g, 5, none⟩ v5).setCell ⟨g, 6, none⟩ v6) a xs :=
  has_set (has_set (has_set (has_set (has_set (has_set (has_set h hne v0) hne v1) hne v2) hne v3) hne v4) hne v5) hne v6
theorem below7 {B : Nat} {w W : World} (h : Below B w W) {g : Nat} (hg : B ≤ g) (v0 v1 v2 v3 v4 v5 v6 : Value) :
    Below B w (((((((W.setCell ⟨g, 0, none⟩ v0).setCell ⟨g, 1, none⟩ v1).setCell ⟨g, 2, none⟩ v2).setCell ⟨g, 3, none⟩ v3).setCell ⟨g, 4, none⟩ v4).setCell ⟨g, 5, none⟩ v5).setCell ⟨g, 6, none⟩ v6) :=
  ((((((h.setCell (p := ⟨g, 0, none⟩) hg v0).setCell (p := ⟨g, 1, none⟩) hg v1).setCell (p := ⟨g, 2, none⟩) hg v2).setCell (p := ⟨g, 3, none⟩) hg v3).setCell (p := ⟨g, 4, none⟩) hg v4).setCell (p := ⟨g, 5, none⟩) hg v5).setCell (p := ⟨g, 6, none⟩) hg v6
/-- How many steps are left, as the way in memory tells. -/
def wayLeft (g : Nat) (w : World) : Nat := match w.cell? ⟨g, 2, none⟩, w.cell? ⟨g, 4, none⟩, w.cell? ⟨g, 5, none⟩ with
  | some (.int .i64 st), some (.int .i64 most), some (.bool false) => (most - st).toNat + 1
  | _, _, _ => 0
theorem wayLeft_is {g s z st re most code : Nat} {over : Bool} {w : World} {t : TypeId} (h : w.heap[g]? = some (.cells (wayA s z st re most over code) t (0, 0))) : wayLeft g w = if over then 0 else most - st + 1 := by
  unfold wayLeft
  rw [cell_of_heap h, cell_of_heap h, cell_of_heap h]
  cases over
  · show ((most : Int) - (st : Int)).toNat + 1 = most - st + 1
    omega
  · rfl
end Go.Proofs.Ytcegoenlajkgfaa
end
section

/- The document's Run of layer 15. Conditions: a machine and lookups in memory; sizes. -/
namespace Go.Proofs.Ytcegoenlajkgfaa
open Go.RowKit Go.Lib

/-- The glyphs, and the mark. -/
abbrev KX := List (Int × Int) × Int
def markC (l : List (Int × Int)) (m : Int) (z F : Nat) : Int := if F / 2 ^ 15 % 2 = 1 ∧ z < l.length then (z : Int) else m
def lineC (lk : Nat → Int → Nat × Bool) (l : List (Int × Int)) (m : Int) (z A Bw : Nat) : List (Int × Int) := swG lk (swG lk l m A) (z : Nat) Bw
def actC (lk : Nat → Int → Nat × Bool) (x : KX) (z : Nat) (e : Ent) : KX × Int × Int := ((lineC lk x.1 x.2 z e.2.2.1 e.2.2.2, markC (lineC lk x.1 x.2 z e.2.2.1 e.2.2.2) x.2 z e.2.1), (z : Int), (z : Int) + 1)
/-- What such a subtable does to a line. -/
def ctxD (bs : List UInt8) (rs : List RP) (lk : Nat → Int → Nat × Bool) (l : List (Int × Int)) : KX × Nat × Nat := runD (fun x z => clD bs rs x.1 z) (enM bs 2) (fun x z => decide (x.1.length ≤ z)) (actC lk) (2 * l.length + 128) (l, -1) 0 0 0 1
def IdsOk (l : List (Int × Int)) : Prop := ∀ p ∈ l, -9223372036854775808 ≤ p.1 ∧ p.1 ≤ 9223372036854775807
theorem swG_ids {lk : Nat → Int → Nat × Bool} (hlk : ∀ k id, (lk k id).1 ≤ 4294967295) {l : List (Int × Int)} (h : IdsOk l) (i : Int) (which : Nat) : IdsOk (swG lk l i which) := by
  unfold swG
  split
  · exact h
  split
  · rename_i hin
    split
    · rw [show setG l i ((lk which (atG l i).1).1 : Nat) = l.set i.toNat ((((lk which (atG l i).1).1 : Nat) : Int), (atG l i).2) from if_pos hin]
      intro p hp
      rcases List.mem_or_eq_of_mem_set hp with hp | rfl
      · exact h p hp
      · have := hlk which (atG l i).1
        show -9223372036854775808 ≤ ((lk which (atG l i).1).1 : Int) ∧ ((lk which (atG l i).1).1 : Int) ≤ 9223372036854775807
        omega
    · exact h
  · exact h
def KRInv (bs : List UInt8) (rs : List RP) (lk : Nat → Int → Nat × Bool) (S nl M g2 g6 : Nat) (mach : Array Value) (R : KX × Nat × Nat) (w : World) (tl tm : Value) (wr : World) : Prop :=
  ∃ (x : KX) (s z st re code : Nat) (over : Bool) (ax : Option Addr) (cx : Nat), tl = .slice ax nl cx ∧ tm = .int .i64 x.2 ∧
    Has wr ax (gv x.1) ∧ x.1.length = nl ∧ (ax = none → cx = 0) ∧ (0 < nl → ∀ p, ax = some p → p.block ≠ g6) ∧ IdsOk x.1 ∧
    wr.heap[g6]? = some (.cells (wayA s z st re M over code) 108 (0, 0)) ∧ wr.heap[g2]? = some (.cells mach 45 (0, 0)) ∧ Below w.heap.size w wr ∧ s < S ∧ z ≤ st ∧
    (over = true → x.1 = R.1.1 ∧ code = R.2.2) ∧ (over = false → code = 0 ∧ re ≤ 64 ∧ ∃ fu, st + (fu + 1) = M ∧ runD (fun x z => clD bs rs x.1 z) (enM bs 2) (fun x z => decide (x.1.length ≤ z)) (actC lk) (fu + 1) x s z re (st + 1) = R)
set_option maxRecDepth 100000 in
set_option maxHeartbeats 6400000 in
theorem refctx_any (a : Option Addr) (n c : Nat) (bs : List UInt8) (glyphs : Nat) (rs : List RP) (S : Nat) (a' : Option Addr) (c' : Nat) (aS : Option Addr) (nS cS : Nat) (subs : List SubD) (al : Option Addr) (nl cl : Nat) (l : List (Int × Int)) (w : World) (h : MRf a n c bs glyphs 2 rs S a' w) (hS : SubsIs glyphs aS subs w) (hSl : subs.length = nS) (h60 : nS ≤ 65535)
    (hent : ∀ j, j < needE bs S → ((entX (bs.drop (num bs 12 4)) 2 j).2.2.1 = 65535 ∨ (entX (bs.drop (num bs 12 4)) 2 j).2.2.1 < nS) ∧ ((entX (bs.drop (num bs 12 4)) 2 j).2.2.2 = 65535 ∨ (entX (bs.drop (num bs 12 4)) 2 j).2.2.2 < nS)) (hlk : ∀ k id, (lkS subs k id).1 ≤ 4294967295)
    (hl : Has w al (gv l)) (hln : l.length = nl) (hA : al = none → cl = 0) (hids : IdsOk l) (hn : nl ≤ 100000) :
    Calls Try.prog 19 #[.agg ((mrefV a n c bs 2 rs S a' c').push (.slice aS nS cS)), .slice al nl cl] w fun e w' => ∃ x cx, e = .returned (.tuple #[.slice x nl cx, .int .i64 ((ctxD bs rs (lkS subs) l).2.2 : Nat)]) ∧ Has w' x (gv (ctxD bs rs (lkS subs) l).1.1) ∧ Below w.heap.size w w' := by
  have hAC := allocC
  have hAF := allocF
  have HM := Lib.hid h
  have HSU := Lib.hid hS
  have HH := Lib.hid hl
  have HLN := Lib.hid hln
  have HA := Lib.hid hA
  have HID := Lib.hid hids
  have HENT := Lib.hid hent
  have HLK := Lib.hid hlk
  have hS0 : 0 < S := by have := h.ok.least.closed.1; omega
  have HC4 := Lib.hid h.ok.cls.1
  have HNXT := Lib.hid (fun s c (hs : s < S) (hc : c < num bs 0 4) => enM_next bs 2 h.ok hs hc)
  have HEIN := Lib.hid (fun s c (hs : s < S) (hc : c < num bs 0 4) => show ((enM bs 2 s c).2.2.1 = 65535 ∨ (enM bs 2 s c).2.2.1 < nS) ∧ ((enM bs 2 s c).2.2.2 = 65535 ∨ (enM bs 2 s c).2.2.2 < nS) from hent (entN bs (s * num bs 0 4 + c)) (ent_in hs hc))
  obtain ⟨R, hR⟩ : ∃ R, R = ctxD bs rs (lkS subs) l := ⟨_, rfl⟩
  rw [← hR]
  have HR := Lib.hid hR.symm
  obtain ⟨M, hM⟩ : ∃ M, M = 2 * nl + 128 := ⟨_, rfl⟩
  have HBG := Lib.hid (fun W => show Calls Try.prog 50 #[.int .i64 (nl : Nat)] W fun e w' => e = .returned (.agg #[.int .i64 0, .int .i64 0, .int .i64 0, .int .i64 0, .int .i64 (M : Nat), .bool false, .int .i64 0]) ∧ Below W.heap.size W w' from hM ▸ refbegin_any nl W (by omega))
  have HMM := Lib.hid hM
  have hMb : M ≤ 300000 := by omega
  have hM0 : 128 ≤ M := by omega
  clear hM
  have HNX := Lib.hid (fun (s z st re most : Nat) (ax : Option Addr) (cx : Nat) (L : List (Int × Int)) (W : World) (hW : Below w.heap.size w W) (h1 : Has W ax (gv L)) (h2 : L.length = nl) (h3 : IdsOk L) (hs : s < S) (hz : z ≤ 1000000000) => refnext_any a n c bs glyphs 2 rs S a' c' s z st re most ax nl cx L W (HM.out.below hW) h1 h2 h3 hs hz)
  unfold mrefV mrefA at *
  rw [show ((2 : Nat) : Int) = 2 from rfl] at HNX ⊢
  simp only [List.push_toArray, List.cons_append, List.nil_append]
  have HSW := Lib.hid (fun (ax : Option Addr) (cx : Nat) (L : List (Int × Int)) (i : Int) (which : Nat) (g6 : Nat) (W : World) (hW : Below w.heap.size w W) (h1 : Has W ax (gv L)) (h2 : L.length = nl) (hA : ax = none → cx = 0) (h3 : IdsOk L) (hw : which = 65535 ∨ which < nS) (hg : g6 < W.heap.size) (hne : 0 < nl → ∀ p, ax = some p → p.block ≠ g6) =>
    refswap_any glyphs #[.slice a n c, .int .i64 (num bs 0 4 : Nat), .int .i64 (num bs 8 4 : Nat), .int .i64 (num bs 12 4 : Nat), .int .i64 (S : Nat), .int .i64 (needE bs S : Nat), .int .i64 2, .slice (adv a c (num bs 4 4)) (n - num bs 4 4) (c - num bs 4 4), .slice a' rs.length c'] _ _ _ _ _ _ _ _ _ rfl (by simp [Value.oneCell']) aS nS cS subs ax nl cx L i which W (HSU.out.below hW) hSl h1 h2 hA h3 (by omega) hw h60 g6 hg hne)
  obtain ⟨mach, hmach⟩ : ∃ m : Array Value, m = #[.slice a n c, .int .i64 (num bs 0 4 : Nat), .int .i64 (num bs 8 4 : Nat), .int .i64 (num bs 12 4 : Nat), .int .i64 (S : Nat), .int .i64 (needE bs S : Nat), .int .i64 2, .slice (adv a c (num bs 4 4)) (n - num bs 4 4) (c - num bs 4 4), .slice a' rs.length c', .slice aS nS cS] := ⟨_, rfl⟩
  have HMACH := Lib.hid hmach
  generalize num bs 4 4 = P4 at *
  generalize num bs 8 4 = P8 at *
  generalize num bs 12 4 = P12 at *
  generalize needE bs S = NE at *
  generalize adv a c P4 = A4 at *
  generalize rs.length = LR at *
  clear h hl hln hA hids hR hS hSl hent hlk
  go_enter Try.func19, Try.ntmps19
  go_wp2_with fail
  obtain ⟨W, hW⟩ : ∃ W, W = w.alloc (Obj.cells mach 45) := ⟨_, rfl⟩
  have hbW : Below w.heap.size w W := by rw [hW]; exact balloc (brefl w) _
  have x2 : W.heap[w.heap.size]? = some (.cells mach 45 (0, 0)) := by rw [hW]; exact (heap_push _ _ _).trans (if_pos rfl)
  have l2 := (Array.getElem?_eq_some_iff.1 x2).1
  rw [hmach] at hW
  rw [← hW]
  refine (HBG.out W).mono ?_
  rintro e w1 ⟨rfl, hb1⟩
  have x2 := (hb1.block _ l2).trans x2
  have l2 := (Array.getElem?_eq_some_iff.1 x2).1
  have hw1 := hb1.size
  go_wp2_with fail
  obtain ⟨V, hV⟩ : ∃ V, V = w1.alloc (Obj.cells (wayA 0 0 0 0 M false 0) 108) := ⟨_, rfl⟩
  have hbV : Below w.heap.size w V := by rw [hV]; exact hbW.trans ((hb1.trans ((balloc (brefl w1) _).mono hw1)).mono hbW.size)
  have x6 : V.heap[w1.heap.size]? = some (.cells (wayA 0 0 0 0 M false 0) 108 (0, 0)) := by rw [hV]; exact (heap_push _ _ _).trans (if_pos rfl)
  have x2 : V.heap[w.heap.size]? = some (.cells mach 45 (0, 0)) := by rw [hV]; exact ((balloc (brefl w1) _).block _ l2).trans x2
  change V = w1.alloc (Obj.cells #[.int .i64 0, .int .i64 0, .int .i64 0, .int .i64 0, .int .i64 (M : Nat), .bool false, .int .i64 0] 108) at hV
  rw [← hV]
  have HV := Lib.hid (show KRInv bs rs (lkS subs) S nl M w.heap.size w1.heap.size mach R w (.slice al nl cl) (.int .i64 (-1)) V from ⟨(l, -1), 0, 0, 0, 0, 0, false, al, cl, rfl, rfl, HH.out.below hbV, HLN.out, HA.out, (by
    intro h0 p hp
    obtain ⟨g, o, he, hg, _⟩ := HH.out.get (by rw [gv_length, HLN.out]; omega)
    rw [he] at hp
    injection hp with hp
    subst hp
    have := hbW.size
    show g ≠ w1.heap.size
    omega), HID.out, x6, x2, hbV, hS0, Nat.le_refl _, (fun h => by cases h), fun _ => ⟨rfl, Nat.zero_le _, M - 1, by omega, by
      rw [show M - 1 + 1 = M by omega]
      have := HR.out
      unfold ctxD at this
      rw [HLN.out, ← HMM.out] at this
      exact this⟩⟩)
  have h26 : w.heap.size < w1.heap.size := l2
  clear hV hbV x6 x2 l2 hW hbW hb1 hw1
  go_loopw [1, 7] (fun tl tm wr => KRInv bs rs (lkS subs) S nl M w.heap.size w1.heap.size mach R w tl tm wr) (fun _ _ wr => wayLeft w1.heap.size wr)
  case atStart => exact HV.out
  case round =>
    obtain ⟨⟨L, m⟩, s, z, st, re, code, over, ax, cx, rfl, rfl, hh, hLn, hxA, hne, hid, x6, x2, hb, hs, hz, hov, hnov⟩ := hrel
    rename World => wr
    simp only at hh hLn hid hov
    have q6 := fun o => cell_of_heap x6 o
    have l6 := (Array.getElem?_eq_some_iff.1 x6).1
    cases over with
    | true =>
      obtain ⟨e1, e2⟩ := hov rfl
      have HHR := Lib.hid (show Has wr ax (gv R.1.1) from e1 ▸ hh)
      have HE2 := Lib.hid e2
      have HB := Lib.hid hb
      clear e1 e2 hov hnov hh hb x2 x6
      simp only [wayA] at q6
      go_wp2_with fail
      refine wp_region_tree (.step 0 (.step 1 (.step 2 (.step 3 (.step 4 .nil))))) (by kernel_rfl) (by kernel_rfl) (by kernel_rfl) (by kernel_rfl) (by intro _ _ d_ _ _ h_; cases d_ <;> first | exact h_ | (dsimp +zetaDelta only at h_ ⊢; exact h_)) (fun w' => ∃ p : Wld wr [], w' = p.val) (wld_start _ _) ?_
      have hG_ := @wldC wr
      (refine tree_quiet gtA (by rfl) (by rfl) (fun K_ hK_ => ?_); go_big_quiet_op; refine hK_ _ ?_; clear hK_ K_)
      (refine tree_quiet gtA (by rfl) (by rfl) (fun K_ hK_ => ?_); go_big_quiet_op; refine hK_ _ ?_; clear hK_ K_)
      (refine tree_quiet gtA (by rfl) (by rfl) (fun K_ hK_ => ?_); go_big_quiet_op; refine hK_ _ ?_; clear hK_ K_)
      (refine tree_quiet gtA (by rfl) (by rfl) (fun K_ hK_ => ?_); go_big_quiet_op; refine hK_ _ ?_; clear hK_ K_)
      (refine tree_quiet gtA (by rfl) (by rfl) (fun K_ hK_ => ?_); go_big_quiet_op; refine hK_ _ ?_; clear hK_ K_)
      refine tree_nil ?_
      clear hG_
      go_wp2_with fail
      refine bodyPost_ret (v := .tuple #[.slice ax nl cx, .int .i64 (code : Nat)]) (by simp [results, Try.results19, go_sem]) rfl ?_
      exact ⟨ax, cx, by rw [HE2.out], HHR.out, bdrew1 HB.out⟩
    | false =>
      obtain ⟨rfl, hre, fu, hfu, hrun⟩ := hnov rfl
      have HRUN := Lib.hid hrun
      have HHX := Lib.hid hh
      have HIDX := Lib.hid hid
      have HLX := Lib.hid hLn
      have HNE := Lib.hid hne
      have HXA := Lib.hid hxA
      have HB := Lib.hid hb
      have X6 := Lib.hid x6
      have X2 := Lib.hid x2
      have hzr := hb.size
      have hst : st ≤ M := by omega
      have HNX1 := Lib.hid (HNX.out s z st re M ax cx L wr hb hh hLn hid hs (by omega))
      have hcl := clD_lt bs rs L z HC4.out
      have hle := entX_le (bs.drop (num bs 12 4)) 2 (entN bs (s * num bs 0 4 + clD bs rs L z))
      have hnx := HNXT.out s (clD bs rs L z) hs hcl
      have hei := HEIN.out s (clD bs rs L z) hs hcl
      change (enM bs 2 s (clD bs rs L z)).1 ≤ 65535 ∧ (enM bs 2 s (clD bs rs L z)).2.1 ≤ 65535 ∧ _ at hle
      obtain ⟨E, hE⟩ : ∃ E, enM bs 2 s (clD bs rs L z) = E := ⟨_, rfl⟩
      rw [hE] at HNX1 hle hnx hei
      have HE := Lib.hid hE
      obtain ⟨e0, F, e2, e3⟩ := E
      simp only [entV4, wayA] at HNX1
      simp only at hle hnx hei
      have hF := hle.2.1
      obtain ⟨hei1, hei2⟩ := hei
      have q2 := fun o => cell_of_heap x2 o
      rw [HMACH.out] at q2
      have l2 := (Array.getElem?_eq_some_iff.1 x2).1
      clear hov hnov hh hid hLn hne hxA hb hrun hE hle hcl x2 x6
      simp only [wayA] at q6
      rw [show ((0 : Nat) : Int) = 0 from rfl] at q6 HNX1
      obtain ⟨L1, hL1⟩ : ∃ L1, L1 = swG (lkS subs) L m e2 := ⟨_, rfl⟩
      obtain ⟨L2, hL2⟩ : ∃ L2, L2 = swG (lkS subs) L1 (z : Nat) e3 := ⟨_, rfl⟩
      have HL1 := Lib.hid hL1
      have HL2 := Lib.hid hL2
      have HLL := Lib.hid (show L2 = lineC (lkS subs) L m z e2 e3 from by rw [hL2, hL1]; rfl)
      have HN1 := Lib.hid (show L1.length = nl from by rw [hL1, swG_length]; exact HLX.out)
      have HN2 := Lib.hid (show L2.length = nl from by rw [hL2, swG_length, hL1, swG_length]; exact HLX.out)
      have HI1 := Lib.hid (show IdsOk L1 from by rw [hL1]; exact swG_ids HLK.out HIDX.out _ _)
      have HI2 := Lib.hid (show IdsOk L2 from by rw [hL2]; exact swG_ids HLK.out HI1.out _ _)
      clear hL1 hL2
      have HGO := Lib.hid (fun W => refgo_any (e0, F, e2, e3) s z st re M nl (z : Nat) ((z : Int) + 1) W hF (by omega) (by omega))
      have HWO := Lib.hid (fun (x1 : KX) (hx1 : actC (lkS subs) (L, m) z (e0, F, e2, e3) = (x1, (z : Int), (z : Int) + 1)) (ho : goO (e0, F, e2, e3) z st re M nl = true) => way_over (cl := fun (x : KX) z => clD bs rs x.1 z) (x := (L, m)) (n := nl) HE.out hx1 (by show decide (L.length ≤ z) = _; rw [HLX.out]) hfu HRUN.out ho)
      have HWN := Lib.hid (fun (x1 : KX) (hx1 : actC (lkS subs) (L, m) z (e0, F, e2, e3) = (x1, (z : Int), (z : Int) + 1)) (ho : goO (e0, F, e2, e3) z st re M nl = false) => way_on (cl := fun (x : KX) z => clD bs rs x.1 z) (x := (L, m)) (n := nl) HE.out hx1 (by show decide (L.length ≤ z) = _; rw [HLX.out]) hfu HRUN.out ho)
      have hgz := goZ_le (e0, F, e2, e3) (stay := (z : Nat)) (on := (z : Int) + 1) (b := z + 1) (by omega) (by omega)
      have hcz : goO (e0, F, e2, e3) z st re M nl = false → goC (e0, F, e2, e3) z st re M nl = 0 := goC_zero _ _ _ _ _ _
      obtain ⟨oz, hoz⟩ : ∃ oz, oz = goZ (e0, F, e2, e3) (z : Nat) ((z : Int) + 1) := ⟨_, rfl⟩
      obtain ⟨orr, hor⟩ : ∃ r, r = goR (e0, F, e2, e3) re := ⟨_, rfl⟩
      obtain ⟨oo, hoo⟩ : ∃ r, r = goO (e0, F, e2, e3) z st re M nl := ⟨_, rfl⟩
      obtain ⟨oc, hoc⟩ : ∃ r, r = goC (e0, F, e2, e3) z st re M nl := ⟨_, rfl⟩
      simp only [← hoz, ← hor, ← hoo, ← hoc] at HGO HWO HWN hgz hcz
      have hst1 : ((st + 1 : Nat) : Int) = (st : Int) + 1 := by omega
      simp only [entV4, wayA, hst1] at HGO
      rw [show ((0 : Nat) : Int) = 0 from rfl] at HGO
      have HNO := Lib.hid hcz
      have hstM : st < M := by omega
      clear hoz hor hoo hoc hst1 HE HRUN hfu hcz
      by_cases hA : F / 2 ^ 15 % 2 = 1
      · by_cases hzn : z < nl
        · have d1 : decide ((32768 : Int) ≤ (F : Int)) = true := by simp; omega
          have d1n : decide (32768 ≤ F) = true := by simp; omega
          have d2 : decide ((z : Int) < (nl : Int)) = true := by simp; omega
          have d2n : decide (z < nl) = true := by simp; omega
          have hmk : markC L2 m z F = (z : Int) := by unfold markC; rw [if_pos ⟨hA, by rw [HN2.out]; exact hzn⟩]
          clear hA hzn
          have HAC := Lib.hid (show actC (lkS subs) (L, m) z (e0, F, e2, e3) = ((L2, (z : Int)), (z : Int), (z : Int) + 1) from by unfold actC; dsimp only; rw [← HLL.out, hmk])
          clear hmk
          go_wp2_with (first
            | (go_at_call 51; (with_reducible refine HNX1.out.mono ?_); rintro e w2 ⟨rfl, hb2⟩; have y6 := (hb2.block _ l6).trans X6.out; have q6 := (fun o => cell_of_heap y6 o); have ly6 := (Array.getElem?_eq_some_iff.1 y6).1; have Y6 := Lib.hid y6; have y2 := (hb2.block _ l2).trans X2.out; have Y2 := Lib.hid y2; have q2 := (fun o => cell_of_heap y2 o); rw [HMACH.out] at q2; have ly2 := (Array.getElem?_eq_some_iff.1 y2).1; have HB2 := Lib.hid (HB.out.trans (hb2.mono hzr)); have HH2 := Lib.hid (HHX.out.below hb2); simp only [wayA] at q6; rw [show ((0 : Nat) : Int) = 0 from rfl] at q6; clear hb2 y6 y2)
            | (go_at_call 52; (with_reducible refine (HSW.out ax cx L m e2 w1.heap.size (w2.alloc (.cells #[.int .i64 (e0 : Nat), .int .i64 (F : Nat), .int .i64 (e2 : Nat), .int .i64 (e3 : Nat)] 60)) (HB2.out.trans ((balloc (brefl w2) _).mono HB2.out.size)) (HH2.out.below (balloc (brefl w2) _)) HLX.out HXA.out HIDX.out hei1 (by simp only [World.size_alloc]; omega) HNE.out).mono ?_); rintro e w3 ⟨a3, c3, rfl, hh3, ha3, hn3, hb3⟩; rw [← HL1.out] at hh3; have HH3 := Lib.hid hh3; have HA3 := Lib.hid ha3; have HN3 := Lib.hid hn3; have b23 := (balloc (brefl w2) (.cells #[.int .i64 (e0 : Nat), .int .i64 (F : Nat), .int .i64 (e2 : Nat), .int .i64 (e3 : Nat)] 60)).trans (hb3.mono (by simp)); have y9 : w3.heap[w2.heap.size]? = some (.cells #[.int .i64 (e0 : Nat), .int .i64 (F : Nat), .int .i64 (e2 : Nat), .int .i64 (e3 : Nat)] 60 (0, 0)) := (hb3.block _ (by simp)).trans ((heap_push _ _ _).trans (if_pos rfl)); have y6 := (b23.block _ ly6).trans Y6.out; have y2 := (b23.block _ ly2).trans Y2.out; have q6 := (fun o => cell_of_heap y6 o); have q9 := (fun o => cell_of_heap y9 o); have q2 := (fun o => cell_of_heap y2 o); rw [HMACH.out] at q2; have l36 := (Array.getElem?_eq_some_iff.1 y6).1; have l39 := (Array.getElem?_eq_some_iff.1 y9).1; have l32 := (Array.getElem?_eq_some_iff.1 y2).1; have Z6 := Lib.hid y6; have Z9 := Lib.hid y9; have Z2 := Lib.hid y2; have HB3 := Lib.hid (HB2.out.trans (b23.mono HB2.out.size)); simp only [wayA] at q6; rw [show ((0 : Nat) : Int) = 0 from rfl] at q6; clear hb3 b23 y6 y9 y2 hh3 ha3 hn3)
            | (go_at_call 52; (with_reducible refine (HSW.out a3 c3 L1 (z : Nat) e3 w1.heap.size w3 HB3.out HH3.out HN1.out HA3.out HI1.out hei2 l36 HN3.out).mono ?_); rintro e w4 ⟨a4, c4, rfl, hh4, ha4, hn4, hb4⟩; rw [← HL2.out] at hh4; have HH4 := Lib.hid hh4; have HA4 := Lib.hid ha4; have HN4 := Lib.hid hn4; have y6 := (hb4.block _ l36).trans Z6.out; have y9 := (hb4.block _ l39).trans Z9.out; have q6 := (fun o => cell_of_heap y6 o); have q9 := (fun o => cell_of_heap y9 o); have l46 := (Array.getElem?_eq_some_iff.1 y6).1; have l49 := (Array.getElem?_eq_some_iff.1 y9).1; have U6 := Lib.hid y6; have U2 := Lib.hid ((hb4.block _ l32).trans Z2.out); have HB4 := Lib.hid (HB3.out.trans (hb4.mono HB3.out.size)); simp only [wayA] at q6; rw [show ((0 : Nat) : Int) = 0 from rfl] at q6; clear hb4 y6 y9 hh4 ha4 hn4)
            | (go_at_call 53; (with_reducible refine (HGO.out _).mono ?_); rintro e w5 ⟨rfl, hb5⟩; have y6 := (hb5.block _ l46).trans U6.out; have q6 := (fun o => cell_of_heap y6 o); have f6 := (fun o => froz_of_heap y6 o); have l56 := (Array.getElem?_eq_some_iff.1 y6).1; have T6 := Lib.hid y6; have T2 := Lib.hid ((hb5.block _ (Array.getElem?_eq_some_iff.1 U2.out).1).trans U2.out); have HB5 := Lib.hid (HB4.out.trans (hb5.mono HB4.out.size)); have HH5 := Lib.hid (HH4.out.below hb5); simp only [wayA] at q6; rw [show ((0 : Nat) : Int) = 0 from rfl] at q6; clear hb5 y6))
          have hw7 := show _ = some (Obj.cells (wayA e0 oz (st + 1) orr M oo oc) _ _) from heap7_at T6.out (.int .i64 (e0 : Nat)) (.int .i64 (oz : Nat)) (.int .i64 ((st : Int) + 1)) (.int .i64 (orr : Nat)) (.int .i64 (M : Nat)) (.bool oo) (.int .i64 (oc : Nat))
          refine ⟨⟨(L2, (z : Int)), e0, oz, st + 1, orr, oc, oo, a4, c4, rfl, rfl, has7 HH5.out (fun hx => HN4.out (Nat.pos_of_ne_zero (by intro h0; apply hx; rw [List.eq_nil_iff_length_eq_zero.2 (HN2.out.trans h0)]; rfl))) _ _ _ _ _ _ _, HN2.out, HA4.out, HN4.out, HI2.out, hw7, (heap7_other (by omega) _ _ _ _ _ _ _).trans T2.out, below7 HB5.out (by omega) _ _ _ _ _ _ _, hnx, by omega, (fun h => ⟨congrArg (·.1) (HWO.out _ HAC.out h).1, (HWO.out _ HAC.out h).2⟩), (fun h => by obtain ⟨f, h1, h2, h3⟩ := HWN.out _ HAC.out h; exact ⟨HNO.out h, h2, f, h1, h3⟩)⟩, ?_⟩
          rw [wayLeft_is hw7, wayLeft_is X6.out]
          cases oo <;> simp <;> omega
        · have d1 : decide ((32768 : Int) ≤ (F : Int)) = true := by simp; omega
          have d1n : decide (32768 ≤ F) = true := by simp; omega
          have d2 : decide ((z : Int) < (nl : Int)) = false := by simp; omega
          have d2n : decide (z < nl) = false := by simp; omega
          have hmk : markC L2 m z F = m := by unfold markC; rw [if_neg (fun h => hzn (by have := h.2; rwa [HN2.out] at this))]
          clear hA hzn
          have HAC := Lib.hid (show actC (lkS subs) (L, m) z (e0, F, e2, e3) = ((L2, m), (z : Int), (z : Int) + 1) from by unfold actC; dsimp only; rw [← HLL.out, hmk])
          clear hmk
          go_wp2_with (first
            | (go_at_call 51; (with_reducible refine HNX1.out.mono ?_); rintro e w2 ⟨rfl, hb2⟩; have y6 := (hb2.block _ l6).trans X6.out; have q6 := (fun o => cell_of_heap y6 o); have ly6 := (Array.getElem?_eq_some_iff.1 y6).1; have Y6 := Lib.hid y6; have y2 := (hb2.block _ l2).trans X2.out; have Y2 := Lib.hid y2; have q2 := (fun o => cell_of_heap y2 o); rw [HMACH.out] at q2; have ly2 := (Array.getElem?_eq_some_iff.1 y2).1; have HB2 := Lib.hid (HB.out.trans (hb2.mono hzr)); have HH2 := Lib.hid (HHX.out.below hb2); simp only [wayA] at q6; rw [show ((0 : Nat) : Int) = 0 from rfl] at q6; clear hb2 y6 y2)
            | (go_at_call 52; (with_reducible refine (HSW.out ax cx L m e2 w1.heap.size (w2.alloc (.cells #[.int .i64 (e0 : Nat), .int .i64 (F : Nat), .int .i64 (e2 : Nat), .int .i64 (e3 : Nat)] 60)) (HB2.out.trans ((balloc (brefl w2) _).mono HB2.out.size)) (HH2.out.below (balloc (brefl w2) _)) HLX.out HXA.out HIDX.out hei1 (by simp only [World.size_alloc]; omega) HNE.out).mono ?_); rintro e w3 ⟨a3, c3, rfl, hh3, ha3, hn3, hb3⟩; rw [← HL1.out] at hh3; have HH3 := Lib.hid hh3; have HA3 := Lib.hid ha3; have HN3 := Lib.hid hn3; have b23 := (balloc (brefl w2) (.cells #[.int .i64 (e0 : Nat), .int .i64 (F : Nat), .int .i64 (e2 : Nat), .int .i64 (e3 : Nat)] 60)).trans (hb3.mono (by simp)); have y9 : w3.heap[w2.heap.size]? = some (.cells #[.int .i64 (e0 : Nat), .int .i64 (F : Nat), .int .i64 (e2 : Nat), .int .i64 (e3 : Nat)] 60 (0, 0)) := (hb3.block _ (by simp)).trans ((heap_push _ _ _).trans (if_pos rfl)); have y6 := (b23.block _ ly6).trans Y6.out; have y2 := (b23.block _ ly2).trans Y2.out; have q6 := (fun o => cell_of_heap y6 o); have q9 := (fun o => cell_of_heap y9 o); have q2 := (fun o => cell_of_heap y2 o); rw [HMACH.out] at q2; have l36 := (Array.getElem?_eq_some_iff.1 y6).1; have l39 := (Array.getElem?_eq_some_iff.1 y9).1; have l32 := (Array.getElem?_eq_some_iff.1 y2).1; have Z6 := Lib.hid y6; have Z9 := Lib.hid y9; have Z2 := Lib.hid y2; have HB3 := Lib.hid (HB2.out.trans (b23.mono HB2.out.size)); simp only [wayA] at q6; rw [show ((0 : Nat) : Int) = 0 from rfl] at q6; clear hb3 b23 y6 y9 y2 hh3 ha3 hn3)
            | (go_at_call 52; (with_reducible refine (HSW.out a3 c3 L1 (z : Nat) e3 w1.heap.size w3 HB3.out HH3.out HN1.out HA3.out HI1.out hei2 l36 HN3.out).mono ?_); rintro e w4 ⟨a4, c4, rfl, hh4, ha4, hn4, hb4⟩; rw [← HL2.out] at hh4; have HH4 := Lib.hid hh4; have HA4 := Lib.hid ha4; have HN4 := Lib.hid hn4; have y6 := (hb4.block _ l36).trans Z6.out; have y9 := (hb4.block _ l39).trans Z9.out; have q6 := (fun o => cell_of_heap y6 o); have q9 := (fun o => cell_of_heap y9 o); have l46 := (Array.getElem?_eq_some_iff.1 y6).1; have l49 := (Array.getElem?_eq_some_iff.1 y9).1; have U6 := Lib.hid y6; have U2 := Lib.hid ((hb4.block _ l32).trans Z2.out); have HB4 := Lib.hid (HB3.out.trans (hb4.mono HB3.out.size)); simp only [wayA] at q6; rw [show ((0 : Nat) : Int) = 0 from rfl] at q6; clear hb4 y6 y9 hh4 ha4 hn4)
            | (go_at_call 53; (with_reducible refine (HGO.out _).mono ?_); rintro e w5 ⟨rfl, hb5⟩; have y6 := (hb5.block _ l46).trans U6.out; have q6 := (fun o => cell_of_heap y6 o); have f6 := (fun o => froz_of_heap y6 o); have l56 := (Array.getElem?_eq_some_iff.1 y6).1; have T6 := Lib.hid y6; have T2 := Lib.hid ((hb5.block _ (Array.getElem?_eq_some_iff.1 U2.out).1).trans U2.out); have HB5 := Lib.hid (HB4.out.trans (hb5.mono HB4.out.size)); have HH5 := Lib.hid (HH4.out.below hb5); simp only [wayA] at q6; rw [show ((0 : Nat) : Int) = 0 from rfl] at q6; clear hb5 y6))
          have hw7 := show _ = some (Obj.cells (wayA e0 oz (st + 1) orr M oo oc) _ _) from heap7_at T6.out (.int .i64 (e0 : Nat)) (.int .i64 (oz : Nat)) (.int .i64 ((st : Int) + 1)) (.int .i64 (orr : Nat)) (.int .i64 (M : Nat)) (.bool oo) (.int .i64 (oc : Nat))
          refine ⟨⟨(L2, m), e0, oz, st + 1, orr, oc, oo, a4, c4, rfl, rfl, has7 HH5.out (fun hx => HN4.out (Nat.pos_of_ne_zero (by intro h0; apply hx; rw [List.eq_nil_iff_length_eq_zero.2 (HN2.out.trans h0)]; rfl))) _ _ _ _ _ _ _, HN2.out, HA4.out, HN4.out, HI2.out, hw7, (heap7_other (by omega) _ _ _ _ _ _ _).trans T2.out, below7 HB5.out (by omega) _ _ _ _ _ _ _, hnx, by omega, (fun h => ⟨congrArg (·.1) (HWO.out _ HAC.out h).1, (HWO.out _ HAC.out h).2⟩), (fun h => by obtain ⟨f, h1, h2, h3⟩ := HWN.out _ HAC.out h; exact ⟨HNO.out h, h2, f, h1, h3⟩)⟩, ?_⟩
          rw [wayLeft_is hw7, wayLeft_is X6.out]
          cases oo <;> simp <;> omega
      · have d1 : decide ((32768 : Int) ≤ (F : Int)) = false := by simp; omega
        have d1n : decide (32768 ≤ F) = false := by simp; omega
        have hmk : markC L2 m z F = m := by unfold markC; rw [if_neg (fun h => hA h.1)]
        clear hA
        have HAC := Lib.hid (show actC (lkS subs) (L, m) z (e0, F, e2, e3) = ((L2, m), (z : Int), (z : Int) + 1) from by unfold actC; dsimp only; rw [← HLL.out, hmk])
        clear hmk
        go_wp2_with (first
          | (go_at_call 51; (with_reducible refine HNX1.out.mono ?_); rintro e w2 ⟨rfl, hb2⟩; have y6 := (hb2.block _ l6).trans X6.out; have q6 := (fun o => cell_of_heap y6 o); have ly6 := (Array.getElem?_eq_some_iff.1 y6).1; have Y6 := Lib.hid y6; have y2 := (hb2.block _ l2).trans X2.out; have Y2 := Lib.hid y2; have q2 := (fun o => cell_of_heap y2 o); rw [HMACH.out] at q2; have ly2 := (Array.getElem?_eq_some_iff.1 y2).1; have HB2 := Lib.hid (HB.out.trans (hb2.mono hzr)); have HH2 := Lib.hid (HHX.out.below hb2); simp only [wayA] at q6; rw [show ((0 : Nat) : Int) = 0 from rfl] at q6; clear hb2 y6 y2)
          | (go_at_call 52; (with_reducible refine (HSW.out ax cx L m e2 w1.heap.size (w2.alloc (.cells #[.int .i64 (e0 : Nat), .int .i64 (F : Nat), .int .i64 (e2 : Nat), .int .i64 (e3 : Nat)] 60)) (HB2.out.trans ((balloc (brefl w2) _).mono HB2.out.size)) (HH2.out.below (balloc (brefl w2) _)) HLX.out HXA.out HIDX.out hei1 (by simp only [World.size_alloc]; omega) HNE.out).mono ?_); rintro e w3 ⟨a3, c3, rfl, hh3, ha3, hn3, hb3⟩; rw [← HL1.out] at hh3; have HH3 := Lib.hid hh3; have HA3 := Lib.hid ha3; have HN3 := Lib.hid hn3; have b23 := (balloc (brefl w2) (.cells #[.int .i64 (e0 : Nat), .int .i64 (F : Nat), .int .i64 (e2 : Nat), .int .i64 (e3 : Nat)] 60)).trans (hb3.mono (by simp)); have y9 : w3.heap[w2.heap.size]? = some (.cells #[.int .i64 (e0 : Nat), .int .i64 (F : Nat), .int .i64 (e2 : Nat), .int .i64 (e3 : Nat)] 60 (0, 0)) := (hb3.block _ (by simp)).trans ((heap_push _ _ _).trans (if_pos rfl)); have y6 := (b23.block _ ly6).trans Y6.out; have y2 := (b23.block _ ly2).trans Y2.out; have q6 := (fun o => cell_of_heap y6 o); have q9 := (fun o => cell_of_heap y9 o); have q2 := (fun o => cell_of_heap y2 o); rw [HMACH.out] at q2; have l36 := (Array.getElem?_eq_some_iff.1 y6).1; have l39 := (Array.getElem?_eq_some_iff.1 y9).1; have l32 := (Array.getElem?_eq_some_iff.1 y2).1; have Z6 := Lib.hid y6; have Z9 := Lib.hid y9; have Z2 := Lib.hid y2; have HB3 := Lib.hid (HB2.out.trans (b23.mono HB2.out.size)); simp only [wayA] at q6; rw [show ((0 : Nat) : Int) = 0 from rfl] at q6; clear hb3 b23 y6 y9 y2 hh3 ha3 hn3)
          | (go_at_call 52; (with_reducible refine (HSW.out a3 c3 L1 (z : Nat) e3 w1.heap.size w3 HB3.out HH3.out HN1.out HA3.out HI1.out hei2 l36 HN3.out).mono ?_); rintro e w4 ⟨a4, c4, rfl, hh4, ha4, hn4, hb4⟩; rw [← HL2.out] at hh4; have HH4 := Lib.hid hh4; have HA4 := Lib.hid ha4; have HN4 := Lib.hid hn4; have y6 := (hb4.block _ l36).trans Z6.out; have y9 := (hb4.block _ l39).trans Z9.out; have q6 := (fun o => cell_of_heap y6 o); have q9 := (fun o => cell_of_heap y9 o); have l46 := (Array.getElem?_eq_some_iff.1 y6).1; have l49 := (Array.getElem?_eq_some_iff.1 y9).1; have U6 := Lib.hid y6; have U2 := Lib.hid ((hb4.block _ l32).trans Z2.out); have HB4 := Lib.hid (HB3.out.trans (hb4.mono HB3.out.size)); simp only [wayA] at q6; rw [show ((0 : Nat) : Int) = 0 from rfl] at q6; clear hb4 y6 y9 hh4 ha4 hn4)
          | (go_at_call 53; (with_reducible refine (HGO.out _).mono ?_); rintro e w5 ⟨rfl, hb5⟩; have y6 := (hb5.block _ l46).trans U6.out; have q6 := (fun o => cell_of_heap y6 o); have f6 := (fun o => froz_of_heap y6 o); have l56 := (Array.getElem?_eq_some_iff.1 y6).1; have T6 := Lib.hid y6; have T2 := Lib.hid ((hb5.block _ (Array.getElem?_eq_some_iff.1 U2.out).1).trans U2.out); have HB5 := Lib.hid (HB4.out.trans (hb5.mono HB4.out.size)); have HH5 := Lib.hid (HH4.out.below hb5); simp only [wayA] at q6; rw [show ((0 : Nat) : Int) = 0 from rfl] at q6; clear hb5 y6))
        have hw7 := show _ = some (Obj.cells (wayA e0 oz (st + 1) orr M oo oc) _ _) from heap7_at T6.out (.int .i64 (e0 : Nat)) (.int .i64 (oz : Nat)) (.int .i64 ((st : Int) + 1)) (.int .i64 (orr : Nat)) (.int .i64 (M : Nat)) (.bool oo) (.int .i64 (oc : Nat))
        refine ⟨⟨(L2, m), e0, oz, st + 1, orr, oc, oo, a4, c4, rfl, rfl, has7 HH5.out (fun hx => HN4.out (Nat.pos_of_ne_zero (by intro h0; apply hx; rw [List.eq_nil_iff_length_eq_zero.2 (HN2.out.trans h0)]; rfl))) _ _ _ _ _ _ _, HN2.out, HA4.out, HN4.out, HI2.out, hw7, (heap7_other (by omega) _ _ _ _ _ _ _).trans T2.out, below7 HB5.out (by omega) _ _ _ _ _ _ _, hnx, by omega, (fun h => ⟨congrArg (·.1) (HWO.out _ HAC.out h).1, (HWO.out _ HAC.out h).2⟩), (fun h => by obtain ⟨f, h1, h2, h3⟩ := HWN.out _ HAC.out h; exact ⟨HNO.out h, h2, f, h1, h3⟩)⟩, ?_⟩
        rw [wayLeft_is hw7, wayLeft_is X6.out]
        cases oo <;> simp <;> omega
end Go.Proofs.Ytcegoenlajkgfaa
end
section

/- drive.Run, with an act made by Plain: a machine goes along a line, whatever the act does by its own contract. Conditions: a machine and a line in memory; the act keeps the machine, and what else is known; sizes. -/
namespace Go.Proofs.Ytcegoenlajkgfaa
open Go.RowKit Go.Lib

theorem fn_nilA (fn : Fn) (first cap : Array Value) (w : World) : (binOp .eql 101 (.func fn first cap) .nilFunc).run Try.prog w = .ok (.bool false) w := by kernel_rfl
set_option maxRecDepth 100000 in
set_option maxHeartbeats 3200000 in
theorem drunE_any {X : Type} (line : X → List (Int × Int)) (Inv : X → World → Prop) (act : X → Nat → Ent → X × Int × Int) (own : Nat → Nat → Prop) (K Bm g : Nat) (bs : List UInt8) (k glyphs : Nat) (rs : List RP) (S B Bl gl gx : Nat) (x0 : X) (w : World)
    (hM : MIs Bm g bs k rs S w) (hS : S ≤ 65536) (hok : MOk bs glyphs k rs S) (hg1 : 1 ≤ glyphs) (hfit : FitL (tabR (bs.drop (num bs 4 4)) rs).1 (tabR (bs.drop (num bs 4 4)) rs).2) (hown : notM own) (hB : B ≤ w.heap.size)
    (hI : Inv x0 w) (hIB : ∀ x W W', Inv x W → Below W.heap.size W W' → Inv x W') (hIL : ∀ x W, Inv x W → ∃ a c, GIs Bl gl a c (line x) W) (hIds : ∀ x W, Inv x W → ∀ p ∈ line x, -9223372036854775808 ≤ p.1 ∧ p.1 ≤ 9223372036854775807)
    (n : Nat) (hn : n = (line x0).length) (hn6 : n ≤ 1000000) (hK : K ≤ 100)
    (hbd : ∀ x z e, (act x z e).2.1 ≤ (z : Int) + K ∧ (act x z e).2.2 ≤ (z : Int) + K)
    (hact : ∀ x W z e, Inv x W → KeepC B own w W → z ≤ 900000000 → (∃ s c, s < S ∧ c < num bs 0 4 ∧ e = enM bs k s c) → e.1 ≤ 65535 → e.2.1 ≤ 65535 → e.2.2.1 ≤ 65535 → e.2.2.2 ≤ 65535 → Calls Try.prog 73 #[.int .i64 (z : Nat), entV4 e, .pointer (some ⟨gx, 0, none⟩)] W fun r W' => r = .returned (.tuple #[.int .i64 (act x z e).2.1, .int .i64 (act x z e).2.2]) ∧ Inv (act x z e).1 W' ∧ KeepC B own W W') :
    Calls Try.prog 45 #[.pointer (some ⟨g, 0, none⟩), .pointer (some ⟨gl, 0, none⟩), .func (.func 73) #[] #[.pointer (some ⟨gx, 0, none⟩)]] w fun e w' =>
      e = .returned (.tuple #[.int .i64 ((runD (fun x z => clD bs rs (line x) z) (enM bs k) (fun x z => decide ((line x).length ≤ z)) act (2 * n + 128) x0 0 0 0 1).2.1 : Nat), .int .i64 ((runD (fun x z => clD bs rs (line x) z) (enM bs k) (fun x z => decide ((line x).length ≤ z)) act (2 * n + 128) x0 0 0 0 1).2.2 : Nat)]) ∧ Inv (runD (fun x z => clD bs rs (line x) z) (enM bs k) (fun x z => decide ((line x).length ≤ z)) act (2 * n + 128) x0 0 0 0 1).1 w' ∧ KeepC B own w w' := by
  have hAC := allocC
  have hAF := allocF
  have hN := fn_nilA
  obtain ⟨R, hR⟩ : ∃ R, R = runD (fun x z => clD bs rs (line x) z) (enM bs k) (fun x z => decide ((line x).length ≤ z)) act (2 * n + 128) x0 0 0 0 1 := ⟨_, rfl⟩
  rw [← hR]
  obtain ⟨a0, c0, hG0⟩ := hIL x0 w hI
  have hln := glen_any Bl gl a0 c0 (line x0) w hG0
  rw [← hn] at hln
  have HLN := Lib.hid hln
  have HM := Lib.hid hM
  have HCA := Lib.hid (fun W x z (hk : KeepC B own w W) (hx : Inv x W) (hz : z ≤ 1000000000) => by
    obtain ⟨a, c, hG⟩ := hIL x W hx
    exact classAt_z Bm g bs k rs S Bl gl a c (line x) z hz W (hM.keepO hk hown) hfit hG (hIds x W hx))
  have HST := Lib.hid (fun W (hk : KeepC B own w W) s c (hs : s < S) (hc : c < num bs 0 4) => step_yes Bm g bs k rs S s c W (hM.keepO hk hown) hS hs hc)
  have HACT := Lib.hid hact
  have HCL := Lib.hid (fun x z => clD_lt bs rs (line x) z hok.cls.1)
  have HNX := Lib.hid (fun s c (hs : s < S) (hc : c < num bs 0 4) => enM_next bs k hok hs hc)
  have HIB := Lib.hid hIB
  have HI := Lib.hid hI
  have HR := Lib.hid hR
  have HBD := Lib.hid hbd
  have HOWN := Lib.hid hown
  have hS2 : 0 < S := by have := hok.least.closed.1; omega
  have hK2 : K * (2 * n + 129) ≤ 100 * (2 * n + 129) := Nat.mul_le_mul_right _ hK
  clear hM hok hfit hown hI hIB hIL hIds hn hact hG0 hln hR hbd
  go_enter Try.func45, Try.ntmps45
  go_wp2_with (go_at_call 23; (with_reducible refine HLN.out.mono ?_); rintro e w_ ⟨rfl, rfl⟩)
  go_loopw [9, 10, 11, 12] (fun now at' rests steps wr => ∃ (fu : Nat) (x : X) (s z re st : Nat), now = .int .i64 (s : Nat) ∧ at' = .int .i64 (z : Nat) ∧ rests = .int .i64 (re : Nat) ∧ steps = .int .i64 (st : Nat) ∧ s < S ∧ z ≤ K * st ∧ re ≤ 64 ∧ st + fu = 2 * n + 129 ∧ Inv x wr ∧ KeepC B own w wr ∧ runD (fun x z => clD bs rs (line x) z) (enM bs k) (fun x z => decide ((line x).length ≤ z)) act fu x s z re st = R) (fun _ _ _ steps _ => 2 * n + 129 - (Go.RowKit.intOf steps).toNat)
  case atStart => exact ⟨2 * n + 128, x0, 0, 0, 0, 1, rfl, rfl, rfl, rfl, hS2, Nat.zero_le _, Nat.zero_le _, by omega, HI.out, KeepC.refl _ _ _, HR.out.symm⟩
  case round =>
    obtain ⟨fu, x, s, z, re, st, rfl, rfl, rfl, rfl, hs, hz, hre, hst, hx, hk, hrun⟩ := hrel
    rename World => wr
    have HX := Lib.hid hx
    have HK := Lib.hid hk
    have HRUN := Lib.hid hrun
    clear hx hk hrun
    by_cases hfu : fu = 0
    · have hst2 : st = 2 * n + 129 := by omega
      have d1 : decide ((st : Int) ≤ 2 * (n : Int) + 128) = false := by simp; omega
      have hrun := HRUN.out
      rw [hfu, runD] at hrun
      have HRUN := Lib.hid hrun
      clear hfu hrun
      go_wp2_with fail
      go_ret2
      rw [← HRUN.out]
      refine ⟨?_, HX.out, HK.out⟩
      show Ending.returned (.tuple #[.int .i64 (2 * (n : Int) + 128), .int .i64 4]) = Ending.returned (.tuple #[.int .i64 ((st - 1 : Nat) : Int), .int .i64 ((4 : Nat) : Int)])
      rw [show ((st - 1 : Nat) : Int) = 2 * (n : Int) + 128 by omega]
      rfl
    · obtain ⟨f, rfl⟩ : ∃ f, fu = f + 1 := ⟨fu - 1, by omega⟩
      have d1 : decide ((st : Int) ≤ 2 * (n : Int) + 128) = true := by simp; omega
      have hzb : z ≤ 900000000 := by
        have : K * st ≤ K * (2 * n + 129) := Nat.mul_le_mul_left _ (by omega)
        omega
      have hrun := HRUN.out
      have hBD := HBD.out x z (enM bs k s (clD bs rs (line x) z))
      have hC := HCL.out x z
      have hca := HCA.out wr x z HK.out HX.out (by omega)
      have hnx := HNX.out s (clD bs rs (line x) z) hs hC
      have hstp := fun W (hW : KeepC B own w W) => show Calls Try.prog 72 #[.pointer (some ⟨g, 0, none⟩), .int .i64 (s : Nat), .int .i64 (clD bs rs (line x) z : Nat)] W fun e w' => e = .returned (.tuple #[entV4 (enM bs k s (clD bs rs (line x) z)), .bool true]) ∧ Below W.heap.size W w' from HST.out W hW s (clD bs rs (line x) z) hs hC
      have hle : (enM bs k s (clD bs rs (line x) z)).1 ≤ 65535 ∧ (enM bs k s (clD bs rs (line x) z)).2.1 ≤ 65535 ∧ (enM bs k s (clD bs rs (line x) z)).2.2.1 ≤ 65535 ∧ (enM bs k s (clD bs rs (line x) z)).2.2.2 ≤ 65535 := entX_le _ _ _
      rw [runD] at hrun
      (try simp only at hrun)
      generalize he : enM bs k s (clD bs rs (line x) z) = E at *
      generalize clD bs rs (line x) z = C at *
      obtain ⟨e0, e1, e2, e3⟩ := E
      (try simp only at hle hnx hrun)
      have hac := fun W (hi : Inv x W) (hk : KeepC B own w W) => HACT.out x W z (e0, e1, e2, e3) hi hk hzb ⟨s, C, hs, hC, he.symm⟩ hle.1 hle.2.1 hle.2.2.1 hle.2.2.2
      generalize act x z (e0, e1, e2, e3) = r at hrun hac hBD
      obtain ⟨x1, y1, y2⟩ := r
      (try simp only at hrun hac hBD)
      simp only [entV4] at hac hstp
      obtain ⟨wi, hwi⟩ : ∃ wi, decide (z < (line x).length) = wi := ⟨_, rfl⟩
      rw [hwi] at hca
      have HWI := Lib.hid hwi
      have HC1 := Lib.hid hca
      have HS1 := Lib.hid hstp
      have HA1 := Lib.hid hac
      have hzs : z + K ≤ K * (st + 1) := by rw [Nat.mul_succ]; omega
      obtain ⟨p1, hp1⟩ : ∃ p : Nat, max y1 0 = p := ⟨(max y1 0).toNat, by omega⟩
      obtain ⟨p2, hp2⟩ : ∃ p : Nat, max y2 0 = p := ⟨(max y2 0).toNat, by omega⟩
      rw [hp1, hp2, Int.toNat_natCast, Int.toNat_natCast] at hrun
      have hq1 : p1 ≤ z + K := by omega
      have hq2 : p2 ≤ z + K := by omega
      have HRN := Lib.hid hrun
      have hle1 := hle.2.1
      have hBr := Nat.le_trans hB HK.out.size
      clear hwi he hca hstp hac hrun hle hBD hC HRUN
      by_cases hA : e1 / 2 ^ 14 % 2 = 1
      · have hbt : bits .and .i64 (e1 : Int) 16384 = 16384 := flag_yes e1 14 hle1 (by decide) 16384 rfl hA
        have hrn := HRN.out
        rw [if_pos hA] at hrn
        by_cases h64 : 64 < re + 1
        · have d2 : decide ((64 : Int) < (re : Int) + 1) = true := by simp; omega
          rw [if_pos h64] at hrn
          have HRN := Lib.hid hrn
          clear hrn hA
          go_wp2_with (first
            | (go_at_call 71; (with_reducible refine HC1.out.mono ?_); rintro e w1 ⟨rfl, hb1⟩; have HK1 := Lib.hid (HK.out.trans (KeepC.of (own := own) hb1 hBr)); have HX1 := Lib.hid (HIB.out _ _ _ HX.out hb1); clear hb1)
            | (go_at_call 72; (with_reducible refine (HS1.out _ HK1.out).mono ?_); rintro e w2 ⟨rfl, hb2⟩; have hBw := Nat.le_trans hB HK1.out.size; have hb2' : Below w1.heap.size w1 (w2.alloc (Obj.cells #[.int .i64 (e0 : Nat), .int .i64 (e1 : Nat), .int .i64 (e2 : Nat), .int .i64 (e3 : Nat)] 60)) := balloc hb2 _; have HK2 := Lib.hid (HK1.out.trans (KeepC.of (own := own) hb2' hBw)); have HX2 := Lib.hid (HIB.out _ _ _ HX1.out hb2'); clear hb2 hb2' hBw)
            | (go_at_call 73; (with_reducible refine (HA1.out _ HX2.out HK2.out).mono ?_); rintro e w3 ⟨rfl, hx3, hk3⟩; have h14 := (hk3.kept w2.heap.size _ _ _ (heap_push _ _ _ |>.trans (if_pos rfl)) (HOWN.out.2.2.1 _)).trans (heap_push _ _ _ |>.trans (if_pos rfl)); have q0 := cell_of_heap h14 0; have q1 := cell_of_heap h14 1; simp only [List.getElem?_toArray, List.getElem?_cons_succ, List.getElem?_cons_zero] at q0 q1; have HX3 := Lib.hid hx3; have HK3 := Lib.hid (HK2.out.trans hk3); clear hx3 hk3 h14))
          go_ret2
          rw [← HRN.out]
          exact ⟨rfl, HX3.out, HK3.out⟩
        · have d2 : decide ((64 : Int) < (re : Int) + 1) = false := by simp; omega
          rw [if_neg h64] at hrn
          have HRN := Lib.hid hrn
          clear hrn hA
          go_wp2_with (first
            | (go_at_call 71; (with_reducible refine HC1.out.mono ?_); rintro e w1 ⟨rfl, hb1⟩; have HK1 := Lib.hid (HK.out.trans (KeepC.of (own := own) hb1 hBr)); have HX1 := Lib.hid (HIB.out _ _ _ HX.out hb1); clear hb1)
            | (go_at_call 72; (with_reducible refine (HS1.out _ HK1.out).mono ?_); rintro e w2 ⟨rfl, hb2⟩; have hBw := Nat.le_trans hB HK1.out.size; have hb2' : Below w1.heap.size w1 (w2.alloc (Obj.cells #[.int .i64 (e0 : Nat), .int .i64 (e1 : Nat), .int .i64 (e2 : Nat), .int .i64 (e3 : Nat)] 60)) := balloc hb2 _; have HK2 := Lib.hid (HK1.out.trans (KeepC.of (own := own) hb2' hBw)); have HX2 := Lib.hid (HIB.out _ _ _ HX1.out hb2'); clear hb2 hb2' hBw)
            | (go_at_call 73; (with_reducible refine (HA1.out _ HX2.out HK2.out).mono ?_); rintro e w3 ⟨rfl, hx3, hk3⟩; have h14 := (hk3.kept w2.heap.size _ _ _ (heap_push _ _ _ |>.trans (if_pos rfl)) (HOWN.out.2.2.1 _)).trans (heap_push _ _ _ |>.trans (if_pos rfl)); have q0 := cell_of_heap h14 0; have q1 := cell_of_heap h14 1; simp only [List.getElem?_toArray, List.getElem?_cons_succ, List.getElem?_cons_zero] at q0 q1; have HX3 := Lib.hid hx3; have HK3 := Lib.hid (HK2.out.trans hk3); clear hx3 hk3 h14))
          go_roundw
          case rel => exact ⟨f, x1, e0, p1, re + 1, st + 1, rfl, by first | (congr 1; split <;> omega) | congr 1, by go_num, by go_num, hnx, by omega, by omega, by omega, HX3.out, HK3.out, HRN.out⟩
          case measure => simp only [RowKit.intOf]; omega
      · have hbt : bits .and .i64 (e1 : Int) 16384 = 0 := flag_no e1 14 hle1 (by decide) 16384 rfl hA
        have hrn := HRN.out
        rw [if_neg hA] at hrn
        by_cases hC0 : (line x).length ≤ z
        · obtain rfl : wi = false := by rw [← HWI.out]; simp; omega
          rw [if_pos (by simp; omega)] at hrn
          have HRN := Lib.hid hrn
          clear hrn hA hC0
          go_wp2_with (first
            | (go_at_call 71; (with_reducible refine HC1.out.mono ?_); rintro e w1 ⟨rfl, hb1⟩; have HK1 := Lib.hid (HK.out.trans (KeepC.of (own := own) hb1 hBr)); have HX1 := Lib.hid (HIB.out _ _ _ HX.out hb1); clear hb1)
            | (go_at_call 72; (with_reducible refine (HS1.out _ HK1.out).mono ?_); rintro e w2 ⟨rfl, hb2⟩; have hBw := Nat.le_trans hB HK1.out.size; have hb2' : Below w1.heap.size w1 (w2.alloc (Obj.cells #[.int .i64 (e0 : Nat), .int .i64 (e1 : Nat), .int .i64 (e2 : Nat), .int .i64 (e3 : Nat)] 60)) := balloc hb2 _; have HK2 := Lib.hid (HK1.out.trans (KeepC.of (own := own) hb2' hBw)); have HX2 := Lib.hid (HIB.out _ _ _ HX1.out hb2'); clear hb2 hb2' hBw)
            | (go_at_call 73; (with_reducible refine (HA1.out _ HX2.out HK2.out).mono ?_); rintro e w3 ⟨rfl, hx3, hk3⟩; have h14 := (hk3.kept w2.heap.size _ _ _ (heap_push _ _ _ |>.trans (if_pos rfl)) (HOWN.out.2.2.1 _)).trans (heap_push _ _ _ |>.trans (if_pos rfl)); have q0 := cell_of_heap h14 0; have q1 := cell_of_heap h14 1; simp only [List.getElem?_toArray, List.getElem?_cons_succ, List.getElem?_cons_zero] at q0 q1; have HX3 := Lib.hid hx3; have HK3 := Lib.hid (HK2.out.trans hk3); clear hx3 hk3 h14))
          go_ret2
          rw [← HRN.out]
          exact ⟨rfl, HX3.out, HK3.out⟩
        · obtain rfl : wi = true := by rw [← HWI.out]; simp; omega
          rw [if_neg (by simp; omega)] at hrn
          have HRN := Lib.hid hrn
          clear hrn hA hC0
          go_wp2_with (first
            | (go_at_call 71; (with_reducible refine HC1.out.mono ?_); rintro e w1 ⟨rfl, hb1⟩; have HK1 := Lib.hid (HK.out.trans (KeepC.of (own := own) hb1 hBr)); have HX1 := Lib.hid (HIB.out _ _ _ HX.out hb1); clear hb1)
            | (go_at_call 72; (with_reducible refine (HS1.out _ HK1.out).mono ?_); rintro e w2 ⟨rfl, hb2⟩; have hBw := Nat.le_trans hB HK1.out.size; have hb2' : Below w1.heap.size w1 (w2.alloc (Obj.cells #[.int .i64 (e0 : Nat), .int .i64 (e1 : Nat), .int .i64 (e2 : Nat), .int .i64 (e3 : Nat)] 60)) := balloc hb2 _; have HK2 := Lib.hid (HK1.out.trans (KeepC.of (own := own) hb2' hBw)); have HX2 := Lib.hid (HIB.out _ _ _ HX1.out hb2'); clear hb2 hb2' hBw)
            | (go_at_call 73; (with_reducible refine (HA1.out _ HX2.out HK2.out).mono ?_); rintro e w3 ⟨rfl, hx3, hk3⟩; have h14 := (hk3.kept w2.heap.size _ _ _ (heap_push _ _ _ |>.trans (if_pos rfl)) (HOWN.out.2.2.1 _)).trans (heap_push _ _ _ |>.trans (if_pos rfl)); have q0 := cell_of_heap h14 0; have q1 := cell_of_heap h14 1; simp only [List.getElem?_toArray, List.getElem?_cons_succ, List.getElem?_cons_zero] at q0 q1; have HX3 := Lib.hid hx3; have HK3 := Lib.hid (HK2.out.trans hk3); clear hx3 hk3 h14))
          go_roundw
          case rel => exact ⟨f, x1, e0, p2, 0, st + 1, rfl, by first | (congr 1; split <;> omega) | congr 1, rfl, by go_num, hnx, by omega, by omega, by omega, HX3.out, HK3.out, HRN.out⟩
          case measure => simp only [RowKit.intOf]; omega
end Go.Proofs.Ytcegoenlajkgfaa
end
