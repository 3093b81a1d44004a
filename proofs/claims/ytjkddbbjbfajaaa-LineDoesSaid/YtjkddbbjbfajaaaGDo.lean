
/- Layer 11's id, big and do: a change of both. Conditions: a line in memory, and a list apart from it; sizes. -/
import Derived.Test.YtjkddbbjbfajaaaGRefO
import Derived.Test.YtjkddbbjbfajaaaGDel
import Derived.Test.YtjkddbbjbfajaaaGIns3
namespace Go.Proofs.Ytjkddbbjbfajaaa
open Go.RowKit Go.Lib

/-- A list of glyphs that is apart from a line. -/
structure WOk (g : Nat) (a : Option Addr) (l : List (Int × Int)) (v : Value) (w : World) : Prop where
  ex : ∃ aW cW, v = .slice aW l.length cW ∧ Has w aW (gv l) ∧ (aW = none → cW = 0) ∧ l.length ≤ cW ∧ (∀ p, aW = some p → p.block < w.heap.size) ∧ (∀ p, aW = some p → p.block ≠ g) ∧ ∀ p q, aW = some p → a = some q → p.block ≠ q.block
/-- Where a line's glyphs lie; the line's own block, if nowhere. -/
def rowB (g : Nat) (a : Option Addr) : Nat := match a with
  | some p => p.block
  | none => g
theorem GStep.same {B g : Nat} {a a' : Option Addr} {w w' : World} (h : GStep B g a a' w w') : Same w [g, rowB g a] w' :=
  ⟨h.below.size, fun k hk hx => h.keep k hk (fun e => hx (by rw [e]; simp)) (fun e => hx (by
    cases a with
    | none => cases e
    | some p => have e : k = p.block := (by simpa using e); rw [e]; simp [rowB]))⟩
theorem WOk.below {g : Nat} {a : Option Addr} {l : List (Int × Int)} {v : Value} {w w' : World} (h : WOk g a l v w) (hb : Below w.heap.size w w') : WOk g a l v w' := by
  obtain ⟨aW, cW, h1, h2, h3, h4, h5, h6, h7⟩ := h.ex
  exact ⟨aW, cW, h1, h2.below hb, h3, h4, fun p hp => Nat.lt_of_lt_of_le (h5 p hp) hb.size, h6, h7⟩
theorem WOk.step {B g : Nat} {a a' : Option Addr} {l : List (Int × Int)} {v : Value} {w w' : World} (h : WOk g a l v w) (hs : GStep B g a a' w w') : WOk g a' l v w' := by
  obtain ⟨aW, cW, h1, h2, h3, h4, h5, h6, h7⟩ := h.ex
  refine ⟨aW, cW, h1, hs.has h2 h6 h7, h3, h4, fun p hp => Nat.lt_of_lt_of_le (h5 p hp) hs.below.size, h6, fun p q hp hq e => ?_⟩
  rcases hs.new q.block (by rw [hq]; rfl) with hn | hn
  · cases a with
    | none => cases hn
    | some r => exact h7 p r hp rfl (e.trans (by simpa using hn.symm))
  · have := h5 p hp; omega
theorem WOk.own {B g : Nat} {a : Option Addr} {c : Nat} {l r : List (Int × Int)} {v : Value} {w w' : World} (hg : GIs B g a c r w) (h : GRow w.heap.size l v w') : WOk g a l v w' := by
  obtain ⟨aW, cW, h1, h2⟩ := h
  obtain ⟨a', c', he, k1, k2, k3⟩ := owns_slice h2
  injection he with e1 e2 e3
  subst e1 e3
  refine ⟨aW, cW, h1, has_of_owns h2, k3, k1, fun p hp => (h2.lt p.block (by rw [hp]; rfl)).2, fun p hp => ?_, fun p q hp hq => ?_⟩
  · have := (h2.lt p.block (by rw [hp]; rfl)).1
    have := (Array.getElem?_eq_some_iff.1 hg.hd).1
    omega
  · have := (h2.lt p.block (by rw [hp]; rfl)).1
    have := (hg.row.lt q.block (by rw [hq]; rfl)).2
    omega
theorem WOk.ans {B g : Nat} {a aW : Option Addr} {c n cW : Nat} {l r k : List (Int × Int)} {v v0 : Value} {w w' : World} (hg : GIs B g a c r w) (h0 : WOk g a k v0 w) (hv : v0 = .slice aW n cW) (h : GAns aW n cW w.heap.size l v w') (hb : Below w.heap.size w w') : WOk g a l v w' := by
  rcases h with ⟨rfl, hl, hh⟩ | h
  · obtain ⟨aW', cW', h1, h2, h3, h4, h5, h6, h7⟩ := h0.ex
    rw [hv] at h1
    injection h1 with e1 e2 e3
    subst e1 e2 e3
    exact ⟨aW, cW, by rw [hl], hh, h3, by omega, fun p hp => Nat.lt_of_lt_of_le (h5 p hp) hb.size, h6, h7⟩
  · exact WOk.own hg h

def idL (ids : List Int) : Int := ids.headD 0
set_option maxHeartbeats 400000 in
theorem id_any (a : Option Addr) (n c : Nat) (ids : List Int) (w : World) (h : Has w a (iv ids)) (hl : ids.length = n) (hn : n ≤ 1000000) :
    Calls Try.prog 21 #[.slice a n c] w fun e w' => e = .returned (.int .i64 (idL ids)) ∧ Below w.heap.size w w' := by
  rcases ids with _ | ⟨x, ids⟩
  · obtain rfl : n = 0 := hl.symm
    clear h hl
    go_enter Try.func21, Try.ntmps21
    go_wp2_with fail
    go_ret
    exact ⟨rfl, blw⟩
  · obtain ⟨g, o, z, rfl, hg, hz, hc⟩ := iv_at h (k := 0) (by simp)
    simp at hz
    subst hz
    rw [Nat.add_zero] at hc
    have hn0 : 0 < n := by simp at hl; omega
    clear h hl
    go_enter Try.func21, Try.ntmps21
    go_wp2_with fail
    go_ret
    exact ⟨rfl, blw⟩
/-- A change of a list. -/
def opG (k z : Int) (ids : List Int) (l : List (Int × Int)) : List (Int × Int) :=
  if k = 0 then setG l z (idL ids) else if k = 1 then insG l z ids else if k = 2 then ordG l z ids else if k = 3 then joinG l z ids else if k = 4 then l.reverse else if k = 5 then cleanG l else l
theorem opG_length (k z : Int) (ids : List Int) (l : List (Int × Int)) : (opG k z ids l).length ≤ l.length + ids.length := by
  unfold opG
  have h1 := setG_length l z (idL ids)
  have h2 := insG_length l z ids
  have h3 := ordG_length l z ids
  have h4 := joinG_length l z ids
  have h5 := cleanG_length l
  have h6 := @List.length_reverse _ l
  repeat' split
  all_goals omega
def DoIs (B g : Nat) (a : Option Addr) (r : List (Int × Int)) (w : World) (e : Ending) (w' : World) : Prop :=
  ∃ a' c' v, e = .returned (.tuple #[v, .bool true]) ∧ GIs B g a' c' r w' ∧ WOk g a' r v w' ∧ GStep B g a a' w w'
set_option maxHeartbeats 6400000 in
set_option maxRecDepth 100000 in
theorem do_any (B g : Nat) (a : Option Addr) (c : Nat) (l : List (Int × Int)) (v : Value) (k z : Int) (ai : Option Addr) (m ci : Nat) (ids : List Int) (w : World) (h : GIs B g a c l w) (hv : WOk g a l v w) (hi : Has w ai (iv ids)) (hd1 : ∀ p, ai = some p → 0 < m → p.block ≠ g) (hd2 : ∀ p q, ai = some p → a = some q → 0 < m → p.block ≠ q.block) (hil : ids.length = m) (hB : B ≤ g) (hBw : B ≤ w.heap.size) (hn : l.length ≤ 100000) (hm : m ≤ 100000) (hz1 : -9223372036854775808 ≤ z) (hz2 : z ≤ 9223372036854775807) :
    Calls Try.prog 11 #[.pointer (some ⟨g, 0, none⟩), v, .agg #[.int .i64 k, .int .i64 z, .slice ai m ci]] w (DoIs B g a (opG k z ids l) w) := by
  have hAC := allocC
  have hAF := allocF
  obtain ⟨W, hW⟩ : ∃ W, W = w.alloc (.cells #[.int .i64 k, .int .i64 z, .slice ai m ci] 31) := ⟨_, rfl⟩
  have hbW : Below w.heap.size w W := by rw [hW]; exact blw
  have HG := Lib.hid (h.below hbW)
  have HV := Lib.hid (hv.below hbW)
  have HI := Lib.hid (hi.below hbW)
  have HS0 := Lib.hid (GStep.of_below (B := B) (g := g) (a := a) hbW hBw)
  have HD1 := Lib.hid hd1
  have HD2 := Lib.hid hd2
  have HIL := Lib.hid hil
  have hgw := (Array.getElem?_eq_some_iff.1 (h.below hbW).hd).1
  have hzW : W.heap.size = w.heap.size + 1 := by rw [hW]; simp
  have hr : W.heap[w.heap.size]? = some (.cells #[.int .i64 k, .int .i64 z, .slice ai m ci] 31 (0, 0)) := by rw [hW, heap_push, if_pos rfl]
  have HRR := Lib.hid hr
  have hgne : w.heap.size ≠ g := by have := (Array.getElem?_eq_some_iff.1 h.hd).1; omega
  have hane : ∀ q, a = some q → q.block ≠ w.heap.size := fun q hq => by have := (h.row.lt q.block (by rw [hq]; rfl)).2; omega
  have HAN := Lib.hid hane
  have r0 := cell_of_heap hr 0
  have r1 := cell_of_heap hr 1
  have r2 := cell_of_heap hr 2
  simp only [List.getElem?_toArray, List.getElem?_cons_zero, List.getElem?_cons_succ] at r0 r1 r2
  obtain ⟨aW, cW, rfl, hwh, hwn, hwc, hwl, hw6, hw7⟩ := hv.ex
  have HWN := Lib.hid hwn
  obtain ⟨n, hnl⟩ : ∃ n, n = l.length := ⟨_, rfl⟩
  have HN := Lib.hid hnl
  rw [← hnl] at hwc hn HV ⊢
  unfold DoIs
  have HBA := Lib.hid (show some w.heap.size ≠ a.map (·.block) from fun e => by
    cases a with
    | none => cases e
    | some q => exact hane q rfl (by simpa using e.symm))
  have hbne : w.heap.size ≠ rowB g a := by
    cases a with
    | none => exact hgne
    | some q => exact fun e => hane q rfl e.symm
  have HW := Lib.hid hW
  have hg2 : ¬ w.heap.size = g := hgne
  have hb2 : ¬ w.heap.size = rowB g a := hbne
  generalize hbA : rowB g a = bA at *
  have HSA := Lib.hid (fun a' w' (hS : GStep B g a a' W w') => show Same W [g, bA] w' by rw [← hbA]; exact hS.same)
  clear h hv hi hd1 hd2 hil hbW hr hane hwh hwn hwl hw6 hw7 hnl hW hbA
  have q00 : True := trivial
  by_cases hk : k = 0
  · subst hk
    have HOP := Lib.hid (show opG 0 z ids l = setG l z (idL ids) by simp [opG])
    go_enter Try.func11, Try.ntmps11
    go_wp2_with fail
    rw [← HW.out]
    refine wp_region_tree (.step 0 (.step 1 (.step 2 (.step 3 (.step 4 (.step 5 (.step 6 (.step 7 .nil)))))))) (by kernel_rfl) (by kernel_rfl) (by kernel_rfl) (by kernel_rfl) (by intro _ _ d_ _ _ h_; cases d_ <;> first | exact h_ | (dsimp +zetaDelta only at h_ ⊢; exact h_)) (fun w' => ∃ p : Wld W [g, bA], w' = p.val) (wld_start _ _) ?_
    have hG_ := @wldC2 W g bA
    (refine tree_quiet (by simp only [List.getElem?_toArray, List.getElem?_cons_succ, List.getElem?_cons_zero]; rfl) (by rfl) (by rfl) (fun K_ hK_ => ?_); go_big_quiet_op; refine hK_ _ ?_; clear hK_ K_)
    (refine tree_quiet (by simp only [List.getElem?_toArray, List.getElem?_cons_succ, List.getElem?_cons_zero]; rfl) (by rfl) (by rfl) (fun K_ hK_ => ?_); go_big_quiet_op; refine hK_ _ ?_; clear hK_ K_)
    (refine tree_quiet (by simp only [List.getElem?_toArray, List.getElem?_cons_succ, List.getElem?_cons_zero]; rfl) (by rfl) (by rfl) (fun K_ hK_ => ?_); go_big_quiet_op; refine hK_ _ ?_; clear hK_ K_)
    (refine tree_quiet (by simp only [List.getElem?_toArray, List.getElem?_cons_succ, List.getElem?_cons_zero]; rfl) (by rfl) (by rfl) (fun K_ hK_ => ?_); go_big_quiet_op; refine hK_ _ ?_; clear hK_ K_)
    (refine tree_quiet (by simp only [List.getElem?_toArray, List.getElem?_cons_succ, List.getElem?_cons_zero]; rfl) (by rfl) (by rfl) (fun K_ hK_ => ?_); go_big_quiet_op; refine hK_ _ ?_; clear hK_ K_)
    (refine tree_run (by simp only [List.getElem?_toArray, List.getElem?_cons_succ, List.getElem?_cons_zero]; rfl) (by rfl) (by rfl) (fun K_ hK_ => ?_); have HK_ := Lib.hid hK_; clear hK_; go_wp2_with (first | (go_at_call 21; (with_reducible refine (id_any ai m ci ids _ (HI.out.below (by first | exact brefl _ | exact bdrew1 (brefl _))) HIL.out (by omega)).mono ?_); rintro e w5 ⟨rfl, hb5⟩; have hbz5 : Below W.heap.size W w5 := (by first | exact hb5 | exact (bdrew1 (brefl W)).trans hb5)) | (go_at_call 20; (with_reducible refine (gset_any B g a c l w5 (HG.out.below hbz5) z (idL ids)).mono ?_); rintro e w6 ⟨rfl, hG, hS, hz6⟩; rw [show (if inG l z = true then l.set z.toNat (idL ids, (atG l z).2) else l) = setG l z (idL ids) from rfl] at hG; have hS0 : GStep B g a a W w6 := (GStep.of_below hbz5 (by omega)).trans hS; have hsame := HSA.out _ _ hS0; have HG6 := Lib.hid hG; have HS6 := Lib.hid hS0; clear hG hS hS0)); refine HK_.out _ _ (wld_ofA) ?_; clear HK_)
    (refine tree_run (by simp only [List.getElem?_toArray, List.getElem?_cons_succ, List.getElem?_cons_zero]; rfl) (by rfl) (by rfl) (fun K_ hK_ => ?_); have HK_ := Lib.hid hK_; clear hK_; go_wp2_with (first | (go_at_call 21; (with_reducible refine (id_any ai m ci ids _ (HI.out.below (by first | exact brefl _ | exact bdrew1 (brefl _))) HIL.out (by omega)).mono ?_); rintro e w5 ⟨rfl, hb5⟩; have hbz5 : Below W.heap.size W w5 := (by first | exact hb5 | exact (bdrew1 (brefl W)).trans hb5)) | (go_at_call 20; (with_reducible refine (gset_any B g a c l w5 (HG.out.below hbz5) z (idL ids)).mono ?_); rintro e w6 ⟨rfl, hG, hS, hz6⟩; rw [show (if inG l z = true then l.set z.toNat (idL ids, (atG l z).2) else l) = setG l z (idL ids) from rfl] at hG; have hS0 : GStep B g a a W w6 := (GStep.of_below hbz5 (by omega)).trans hS; have hsame := HSA.out _ _ hS0; have HG6 := Lib.hid hG; have HS6 := Lib.hid hS0; clear hG hS hS0)); refine HK_.out _ _ (wld_ofA) ?_; clear HK_)
    (refine tree_quiet (by simp only [List.getElem?_toArray, List.getElem?_cons_succ, List.getElem?_cons_zero]; rfl) (by rfl) (by rfl) (fun K_ hK_ => ?_); go_big_quiet_op; refine hK_ _ ?_; clear hK_ K_)
    refine tree_nil ?_
    clear hG_
    have hrr := (HS6.out.keep w.heap.size (by omega) hgne HBA.out).trans HRR.out
    have s0 := cell_of_heap hrr 0
    have s1 := cell_of_heap hrr 1
    have s2 := cell_of_heap hrr 2
    simp only [List.getElem?_toArray, List.getElem?_cons_zero, List.getElem?_cons_succ] at s0 s1 s2
    have HV6 := Lib.hid (HV.out.step HS6.out)
    have HI6 := Lib.hid (show Has w6 ai (iv ids) from by
      rcases Nat.eq_zero_or_pos m with h0 | h0
      · rw [List.eq_nil_of_length_eq_zero (HIL.out.trans h0)]; exact Has.nil _ _
      · exact HS6.out.has HI.out (fun p hp => HD1.out p hp h0) (fun p q hp hq => HD2.out p q hp hq h0))
    have hz6 := HS6.out.below.size
    have hg6 := (Array.getElem?_eq_some_iff.1 HG6.out.hd).1
    have HH6 := Lib.hid (show Has w6 aW (gv l) from by
      obtain ⟨_, _, he, hh, _⟩ := HV6.out.ex
      rw [← HN.out] at he
      injection he with e1 e2 e3
      subst e1
      exact hh)
    have hlr := (Array.getElem?_eq_some_iff.1 hrr).1
    clear hrr r0 r1 r2 q00
    clear hz6
    have hz6 := HS6.out.below.size
    clear hsame hb5 hbz5
    go_wp2_with fail
    refine wp_region_tree (.step 0 (.step 1 (.step 2 (.step 3 (.step 4 (.step 5 (.step 6 (.step 7 (.step 8 (.step 9 (.step 10 (.step 11 .nil)))))))))))) (by kernel_rfl) (by kernel_rfl) (by kernel_rfl) (by kernel_rfl) (by intro _ _ d_ _ _ h_; cases d_ <;> first | exact h_ | (dsimp +zetaDelta only at h_ ⊢; exact h_)) (fun w' => ∃ p : Wld w6 [], w' = p.val) (wld_start _ _) ?_
    have hG_ := @wldC w6
    (refine tree_quiet (by simp only [List.getElem?_toArray, List.getElem?_cons_succ, List.getElem?_cons_zero]; rfl) (by rfl) (by rfl) (fun K_ hK_ => ?_); go_big_quiet_op; refine hK_ _ ?_; clear hK_ K_)
    (refine tree_quiet (by simp only [List.getElem?_toArray, List.getElem?_cons_succ, List.getElem?_cons_zero]; rfl) (by rfl) (by rfl) (fun K_ hK_ => ?_); go_big_quiet_op; refine hK_ _ ?_; clear hK_ K_)
    (refine tree_quiet (by simp only [List.getElem?_toArray, List.getElem?_cons_succ, List.getElem?_cons_zero]; rfl) (by rfl) (by rfl) (fun K_ hK_ => ?_); go_big_quiet_op; refine hK_ _ ?_; clear hK_ K_)
    (refine tree_quiet (by simp only [List.getElem?_toArray, List.getElem?_cons_succ, List.getElem?_cons_zero]; rfl) (by rfl) (by rfl) (fun K_ hK_ => ?_); go_big_quiet_op; refine hK_ _ ?_; clear hK_ K_)
    (refine tree_quiet (by simp only [List.getElem?_toArray, List.getElem?_cons_succ, List.getElem?_cons_zero]; rfl) (by rfl) (by rfl) (fun K_ hK_ => ?_); go_big_quiet_op; refine hK_ _ ?_; clear hK_ K_)
    (refine tree_run (by simp only [List.getElem?_toArray, List.getElem?_cons_succ, List.getElem?_cons_zero]; rfl) (by rfl) (by rfl) (fun K_ hK_ => ?_); have HK_ := Lib.hid hK_; clear hK_; go_wp2_with (first | (go_at_call 21; (with_reducible refine (id_any ai m ci ids _ (HI6.out.below (by first | exact brefl _ | exact bdrew1 (brefl _))) HIL.out (by omega)).mono ?_); rintro e w8 ⟨rfl, hb8⟩; have hbz8 : Below w6.heap.size w6 w8 := (by first | exact hb8 | exact (bdrew1 (brefl w6)).trans hb8)) | (go_at_call 22; (with_reducible refine (refSetG_any aW n cW l z (idL ids) w8 (HH6.out.below hbz8) HN.out.symm (by omega) HWN.out).mono ?_); rintro e w7 ⟨v7, rfl, ha7, hb7⟩; have hb79 : Below w6.heap.size w6 w7 := hbz8.trans (hb7.mono hbz8.size); have HB7 := Lib.hid hb79; have HW7 := Lib.hid (WOk.ans (HG6.out.below hbz8) (HV6.out.below hbz8) rfl ha7 hb7); clear ha7 hb7 hb8 hbz8)); refine HK_.out _ _ (wld_ofA) ?_; clear HK_)
    (refine tree_run (by simp only [List.getElem?_toArray, List.getElem?_cons_succ, List.getElem?_cons_zero]; rfl) (by rfl) (by rfl) (fun K_ hK_ => ?_); have HK_ := Lib.hid hK_; clear hK_; go_wp2_with (first | (go_at_call 21; (with_reducible refine (id_any ai m ci ids _ (HI6.out.below (by first | exact brefl _ | exact bdrew1 (brefl _))) HIL.out (by omega)).mono ?_); rintro e w8 ⟨rfl, hb8⟩; have hbz8 : Below w6.heap.size w6 w8 := (by first | exact hb8 | exact (bdrew1 (brefl w6)).trans hb8)) | (go_at_call 22; (with_reducible refine (refSetG_any aW n cW l z (idL ids) w8 (HH6.out.below hbz8) HN.out.symm (by omega) HWN.out).mono ?_); rintro e w7 ⟨v7, rfl, ha7, hb7⟩; have hb79 : Below w6.heap.size w6 w7 := hbz8.trans (hb7.mono hbz8.size); have HB7 := Lib.hid hb79; have HW7 := Lib.hid (WOk.ans (HG6.out.below hbz8) (HV6.out.below hbz8) rfl ha7 hb7); clear ha7 hb7 hb8 hbz8)); refine HK_.out _ _ (wld_ofA) ?_; clear HK_)
    (refine tree_quiet (by simp only [List.getElem?_toArray, List.getElem?_cons_succ, List.getElem?_cons_zero]; rfl) (by rfl) (by rfl) (fun K_ hK_ => ?_); go_big_quiet_op; refine hK_ _ ?_; clear hK_ K_)
    (refine tree_quiet (by simp only [List.getElem?_toArray, List.getElem?_cons_succ, List.getElem?_cons_zero]; rfl) (by rfl) (by rfl) (fun K_ hK_ => ?_); go_big_quiet_op; refine hK_ _ ?_; clear hK_ K_)
    (refine tree_quiet (by simp only [List.getElem?_toArray, List.getElem?_cons_succ, List.getElem?_cons_zero]; rfl) (by rfl) (by rfl) (fun K_ hK_ => ?_); go_big_quiet_op; refine hK_ _ ?_; clear hK_ K_)
    (refine tree_quiet (by simp only [List.getElem?_toArray, List.getElem?_cons_succ, List.getElem?_cons_zero]; rfl) (by rfl) (by rfl) (fun K_ hK_ => ?_); go_big_quiet_op; refine hK_ _ ?_; clear hK_ K_)
    (refine tree_quiet (by simp only [List.getElem?_toArray, List.getElem?_cons_succ, List.getElem?_cons_zero]; rfl) (by rfl) (by rfl) (fun K_ hK_ => ?_); go_big_quiet_op; refine hK_ _ ?_; clear hK_ K_)
    refine tree_nil ?_
    clear hG_
    go_wp2_with fail
    refine bodyPost_ret (v := .tuple #[v7, .bool true]) (by simp [results, Try.results11, go_sem]) rfl ?_
    exact ⟨a, c, _, rfl, by rw [HOP.out]; exact HG6.out.below HB7.out, by rw [HOP.out]; exact HW7.out, (HS0.out.trans HS6.out).trans (GStep.of_below HB7.out (by omega))⟩
  by_cases hk1 : k = 1
  · subst hk1
    have HOP := Lib.hid (show opG 1 z ids l = insG l z ids by simp [opG])
    go_enter Try.func11, Try.ntmps11
    go_wp2_with fail
    rw [← HW.out]
    go_wp2_with (go_at_call 19; (with_reducible refine (gins_any B g a c l z ai m ci ids W HG.out HI.out HIL.out hB (by omega) (by rw [← HN.out]; omega) (by omega)).mono ?_); rintro e w6 ⟨a6, c6, rfl, hG, hS⟩; have HG6 := Lib.hid hG; have HS6 := Lib.hid hS; clear hG hS; have hrr := (HS6.out.keep w.heap.size (by omega) hgne HBA.out).trans HRR.out; have s0 := cell_of_heap hrr 0; have s1 := cell_of_heap hrr 1; have s2 := cell_of_heap hrr 2; simp only [List.getElem?_toArray, List.getElem?_cons_zero, List.getElem?_cons_succ] at s0 s1 s2; have hlr := (Array.getElem?_eq_some_iff.1 hrr).1; clear hrr)
    have HV6 := Lib.hid (HV.out.step HS6.out)
    have HI6 := Lib.hid (show Has w6 ai (iv ids) from by
      rcases Nat.eq_zero_or_pos m with h0 | h0
      · rw [List.eq_nil_of_length_eq_zero (HIL.out.trans h0)]; exact Has.nil _ _
      · exact HS6.out.has HI.out (fun p hp => HD1.out p hp h0) (fun p q hp hq => HD2.out p q hp hq h0))
    have hz6 := HS6.out.below.size
    have hg6 := (Array.getElem?_eq_some_iff.1 HG6.out.hd).1
    have HH6 := Lib.hid (show Has w6 aW (gv l) from by
      obtain ⟨_, _, he, hh, _⟩ := HV6.out.ex
      rw [← HN.out] at he
      injection he with e1 e2 e3
      subst e1
      exact hh)
    clear r0 r1 r2 q00
    go_wp2_with (go_at_call 23; (with_reducible refine (refInsG_any aW n cW l z ai m ci ids w6 HH6.out HN.out.symm hwc HWN.out HI6.out HIL.out (by omega) (by omega)).mono ?_); rintro e w7 ⟨v7, rfl, ha7, hb7⟩; have HB7 := Lib.hid (show Below w6.heap.size w6 w7 from hb7); have HW7 := Lib.hid (WOk.ans HG6.out HV6.out rfl ha7 hb7); clear ha7 hb7)
    refine bodyPost_ret (v := .tuple #[v7, .bool true]) (by simp [results, Try.results11, go_sem]) rfl ?_
    exact ⟨a6, c6, _, rfl, by rw [HOP.out]; exact HG6.out.below HB7.out, by rw [HOP.out]; exact HW7.out, (HS0.out.trans HS6.out).trans (GStep.of_below HB7.out (by omega))⟩
  by_cases hk2 : k = 2
  · subst hk2
    have HOP := Lib.hid (show opG 2 z ids l = ordG l z ids by simp [opG])
    go_enter Try.func11, Try.ntmps11
    go_wp2_with fail
    rw [← HW.out]
    go_wp2_with (go_at_call 24; (with_reducible refine (gord_any B g a c l z ai m ci ids W HG.out HI.out HD1.out HD2.out HIL.out hB (by omega) (by rw [← HN.out]; omega) (by omega) hz1 hz2).mono ?_); rintro e w6 ⟨rfl, hG, hS⟩; have HG6 := Lib.hid hG; have HS6 := Lib.hid hS; clear hG hS; have hrr := (HS6.out.keep w.heap.size (by omega) hgne HBA.out).trans HRR.out; have s0 := cell_of_heap hrr 0; have s1 := cell_of_heap hrr 1; have s2 := cell_of_heap hrr 2; simp only [List.getElem?_toArray, List.getElem?_cons_zero, List.getElem?_cons_succ] at s0 s1 s2; have hlr := (Array.getElem?_eq_some_iff.1 hrr).1; clear hrr)
    have HV6 := Lib.hid (HV.out.step HS6.out)
    have HI6 := Lib.hid (show Has w6 ai (iv ids) from by
      rcases Nat.eq_zero_or_pos m with h0 | h0
      · rw [List.eq_nil_of_length_eq_zero (HIL.out.trans h0)]; exact Has.nil _ _
      · exact HS6.out.has HI.out (fun p hp => HD1.out p hp h0) (fun p q hp hq => HD2.out p q hp hq h0))
    have hz6 := HS6.out.below.size
    have hg6 := (Array.getElem?_eq_some_iff.1 HG6.out.hd).1
    have HH6 := Lib.hid (show Has w6 aW (gv l) from by
      obtain ⟨_, _, he, hh, _⟩ := HV6.out.ex
      rw [← HN.out] at he
      injection he with e1 e2 e3
      subst e1
      exact hh)
    clear r0 r1 r2 q00
    go_wp2_with (go_at_call 25; (with_reducible refine (refOrdG_any aW n cW l z ai m ci ids w6 HH6.out HN.out.symm HWN.out HI6.out HIL.out (by omega) (by omega) hz1 hz2).mono ?_); rintro e w7 ⟨v7, rfl, ha7, hb7⟩; have HB7 := Lib.hid (show Below w6.heap.size w6 w7 from hb7); have HW7 := Lib.hid (WOk.ans HG6.out HV6.out rfl ha7 hb7); clear ha7 hb7)
    refine bodyPost_ret (v := .tuple #[v7, .bool true]) (by simp [results, Try.results11, go_sem]) rfl ?_
    exact ⟨a, c, _, rfl, by rw [HOP.out]; exact HG6.out.below HB7.out, by rw [HOP.out]; exact HW7.out, (HS0.out.trans HS6.out).trans (GStep.of_below HB7.out (by omega))⟩
  by_cases hk3 : k = 3
  · subst hk3
    have HOP := Lib.hid (show opG 3 z ids l = joinG l z ids by simp [opG])
    go_enter Try.func11, Try.ntmps11
    go_wp2_with fail
    rw [← HW.out]
    go_wp2_with (go_at_call 26; (with_reducible refine (gjoin_any B g a c l z ai m ci ids W HG.out HI.out HD1.out HD2.out HIL.out hB (by omega) (by rw [← HN.out]; omega) (by omega)).mono ?_); rintro e w6 ⟨rfl, hG, hS⟩; have HG6 := Lib.hid hG; have HS6 := Lib.hid hS; clear hG hS; have hrr := (HS6.out.keep w.heap.size (by omega) hgne HBA.out).trans HRR.out; have s0 := cell_of_heap hrr 0; have s1 := cell_of_heap hrr 1; have s2 := cell_of_heap hrr 2; simp only [List.getElem?_toArray, List.getElem?_cons_zero, List.getElem?_cons_succ] at s0 s1 s2; have hlr := (Array.getElem?_eq_some_iff.1 hrr).1; clear hrr)
    have HV6 := Lib.hid (HV.out.step HS6.out)
    have HI6 := Lib.hid (show Has w6 ai (iv ids) from by
      rcases Nat.eq_zero_or_pos m with h0 | h0
      · rw [List.eq_nil_of_length_eq_zero (HIL.out.trans h0)]; exact Has.nil _ _
      · exact HS6.out.has HI.out (fun p hp => HD1.out p hp h0) (fun p q hp hq => HD2.out p q hp hq h0))
    have hz6 := HS6.out.below.size
    have hg6 := (Array.getElem?_eq_some_iff.1 HG6.out.hd).1
    have HH6 := Lib.hid (show Has w6 aW (gv l) from by
      obtain ⟨_, _, he, hh, _⟩ := HV6.out.ex
      rw [← HN.out] at he
      injection he with e1 e2 e3
      subst e1
      exact hh)
    clear r0 r1 r2 q00
    go_wp2_with (go_at_call 27; (with_reducible refine (refJoinG_any aW n cW l z ai m ci ids w6 HH6.out HN.out.symm HWN.out HI6.out HIL.out (by omega) (by omega)).mono ?_); rintro e w7 ⟨a7, c7, rfl, ho7, hb7⟩; have HB7 := Lib.hid (show Below w6.heap.size w6 w7 from hb7); have HW7 := Lib.hid (WOk.own HG6.out (show GRow w6.heap.size (joinG l z ids) (.slice a7 n c7) w7 from ⟨a7, c7, by rw [joinG_length, ← HN.out], by rw [joinG_length, ← HN.out]; exact ho7⟩)); clear ho7 hb7)
    refine bodyPost_ret (v := .tuple #[.slice a7 n c7, .bool true]) (by simp [results, Try.results11, go_sem]) rfl ?_
    exact ⟨a, c, _, rfl, by rw [HOP.out]; exact HG6.out.below HB7.out, by rw [HOP.out]; exact HW7.out, (HS0.out.trans HS6.out).trans (GStep.of_below HB7.out (by omega))⟩
  by_cases hk4 : k = 4
  · subst hk4
    have HOP := Lib.hid (show opG 4 z ids l = l.reverse by simp [opG])
    go_enter Try.func11, Try.ntmps11
    go_wp2_with fail
    rw [← HW.out]
    go_wp2_with (go_at_call 17; (with_reducible refine (gturn_any B g a c l W HG.out (by rw [← HN.out]; omega)).mono ?_); rintro e w6 ⟨rfl, hG, hS⟩; have HG6 := Lib.hid hG; have HS6 := Lib.hid hS; clear hG hS; have hrr := (HS6.out.keep w.heap.size (by omega) hgne HBA.out).trans HRR.out; have s0 := cell_of_heap hrr 0; have s1 := cell_of_heap hrr 1; have s2 := cell_of_heap hrr 2; simp only [List.getElem?_toArray, List.getElem?_cons_zero, List.getElem?_cons_succ] at s0 s1 s2; have hlr := (Array.getElem?_eq_some_iff.1 hrr).1; clear hrr)
    have HV6 := Lib.hid (HV.out.step HS6.out)
    have HI6 := Lib.hid (show Has w6 ai (iv ids) from by
      rcases Nat.eq_zero_or_pos m with h0 | h0
      · rw [List.eq_nil_of_length_eq_zero (HIL.out.trans h0)]; exact Has.nil _ _
      · exact HS6.out.has HI.out (fun p hp => HD1.out p hp h0) (fun p q hp hq => HD2.out p q hp hq h0))
    have hz6 := HS6.out.below.size
    have hg6 := (Array.getElem?_eq_some_iff.1 HG6.out.hd).1
    have HH6 := Lib.hid (show Has w6 aW (gv l) from by
      obtain ⟨_, _, he, hh, _⟩ := HV6.out.ex
      rw [← HN.out] at he
      injection he with e1 e2 e3
      subst e1
      exact hh)
    clear r0 r1 r2 q00
    go_wp2_with (go_at_call 28; (with_reducible refine (refTurnG_any aW n cW l w6 HH6.out HN.out.symm (by omega)).mono ?_); rintro e w7 ⟨a7, c7, rfl, ho7, hb7⟩; have HB7 := Lib.hid (show Below w6.heap.size w6 w7 from hb7); have HW7 := Lib.hid (WOk.own HG6.out (show GRow w6.heap.size (l.reverse) (.slice a7 n c7) w7 from ⟨a7, c7, by rw [List.length_reverse, ← HN.out], by rw [List.length_reverse, ← HN.out]; exact ho7⟩)); clear ho7 hb7)
    refine bodyPost_ret (v := .tuple #[.slice a7 n c7, .bool true]) (by simp [results, Try.results11, go_sem]) rfl ?_
    exact ⟨a, c, _, rfl, by rw [HOP.out]; exact HG6.out.below HB7.out, by rw [HOP.out]; exact HW7.out, (HS0.out.trans HS6.out).trans (GStep.of_below HB7.out (by omega))⟩
  by_cases hk5 : k = 5
  · subst hk5
    have HOP := Lib.hid (show opG 5 z ids l = cleanG l by simp [opG])
    go_enter Try.func11, Try.ntmps11
    go_wp2_with fail
    rw [← HW.out]
    go_wp2_with (go_at_call 18; (with_reducible refine (gclean_any B g a c l W HG.out hB (by omega) (by rw [← HN.out]; omega)).mono ?_); rintro e w6 ⟨c6, rfl, hG, hS⟩; have HG6 := Lib.hid hG; have HS6 := Lib.hid hS; clear hG hS; have hrr := (HS6.out.keep w.heap.size (by omega) hgne HBA.out).trans HRR.out; have s0 := cell_of_heap hrr 0; have s1 := cell_of_heap hrr 1; have s2 := cell_of_heap hrr 2; simp only [List.getElem?_toArray, List.getElem?_cons_zero, List.getElem?_cons_succ] at s0 s1 s2; have hlr := (Array.getElem?_eq_some_iff.1 hrr).1; clear hrr)
    have HV6 := Lib.hid (HV.out.step HS6.out)
    have HI6 := Lib.hid (show Has w6 ai (iv ids) from by
      rcases Nat.eq_zero_or_pos m with h0 | h0
      · rw [List.eq_nil_of_length_eq_zero (HIL.out.trans h0)]; exact Has.nil _ _
      · exact HS6.out.has HI.out (fun p hp => HD1.out p hp h0) (fun p q hp hq => HD2.out p q hp hq h0))
    have hz6 := HS6.out.below.size
    have hg6 := (Array.getElem?_eq_some_iff.1 HG6.out.hd).1
    have HH6 := Lib.hid (show Has w6 aW (gv l) from by
      obtain ⟨_, _, he, hh, _⟩ := HV6.out.ex
      rw [← HN.out] at he
      injection he with e1 e2 e3
      subst e1
      exact hh)
    clear r0 r1 r2 q00
    go_wp2_with (go_at_call 29; (with_reducible refine (refCleanG_any aW n cW l w6 HH6.out HN.out.symm (by omega)).mono ?_); rintro e w7 ⟨a7, c7, rfl, ho7, hb7⟩; have HB7 := Lib.hid (show Below w6.heap.size w6 w7 from hb7); have HW7 := Lib.hid (WOk.own HG6.out (show GRow w6.heap.size (cleanG l) (.slice a7 (cleanG l).length c7) w7 from ⟨a7, c7, rfl, ho7⟩)); clear ho7 hb7)
    refine bodyPost_ret (v := .tuple #[.slice a7 (cleanG l).length c7, .bool true]) (by simp [results, Try.results11, go_sem]) rfl ?_
    exact ⟨a, c6, _, rfl, by rw [HOP.out]; exact HG6.out.below HB7.out, by rw [HOP.out]; exact HW7.out, (HS0.out.trans HS6.out).trans (GStep.of_below HB7.out (by omega))⟩
  have HOP := Lib.hid (show opG k z ids l = l by simp [opG, hk, hk1, hk2, hk3, hk4, hk5])
  have t0 : (k == 0) = false := beq_eq_false_iff_ne.2 hk
  have t1 : (k == 1) = false := beq_eq_false_iff_ne.2 hk1
  have t2 : (k == 2) = false := beq_eq_false_iff_ne.2 hk2
  have t3 : (k == 3) = false := beq_eq_false_iff_ne.2 hk3
  have t4 : (k == 4) = false := beq_eq_false_iff_ne.2 hk4
  have t5 : (k == 5) = false := beq_eq_false_iff_ne.2 hk5
  go_enter Try.func11, Try.ntmps11
  go_wp2_with fail
  rw [← HW.out]
  refine bodyPost_ret (v := .tuple #[.slice aW n cW, .bool true]) (by simp [results, Try.results11, go_sem]) rfl ?_
  exact ⟨a, c, _, rfl, by rw [HOP.out]; exact HG.out, by rw [HOP.out]; have h9 := HV.out; exact h9, HS0.out⟩
end Go.Proofs.Ytjkddbbjbfajaaa
