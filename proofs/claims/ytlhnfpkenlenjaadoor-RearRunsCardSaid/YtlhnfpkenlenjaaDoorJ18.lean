/- Joined from: GRefO GFrame. -/
import Derived.Test.YtlhnfpkenlenjaaDoorJ17
import Derived.Test.YtlhnfpkenlenjaaDoorJ02
import Derived.ChangeSame
import Derived.Deep.Strs
section

/- The document's Join and Order of glyphs. Conditions: as many cells as the slices say; sizes. -/
namespace Go.Proofs.YtlhnfpkenlenjaaDoor
open Go.RowKit Go.Lib

def RJoinIs (l : List (Int × Int)) (n : Nat) (z : Int) (ks : List Int) (w : World) (e : Ending) (w' : World) : Prop :=
  ∃ a' c', e = .returned (.slice a' n c') ∧ w'.ownsRow w.heap.size 53 2 (.slice a' n c') n (gv (joinG l z ks)) ∧ Below w.heap.size w w'
def ROrdIs (a : Option Addr) (n c : Nat) (l : List (Int × Int)) (z : Int) (o : List Int) (w : World) (e : Ending) (w' : World) : Prop :=
  ∃ v, e = .returned (.tuple #[v, .bool (okO l z o)]) ∧ GAns a n c w.heap.size (ordG l z o) v w' ∧ Below w.heap.size w w'
theorem notMem_take {o : List Int} {j : Nat} {z : Int} (h : ∀ (i : Nat) y, i < j → o[i]? = some y → y ≠ z) : z ∉ o.take j := by
  intro hm
  obtain ⟨i, hi⟩ := List.getElem?_of_mem hm
  have hij : i < j := by have := (List.getElem?_eq_some_iff.1 hi).1; rw [List.length_take] at this; omega
  rw [List.getElem?_take, if_pos hij] at hi
  exact h i z hij hi rfl
theorem mem_take_at {o : List Int} {i j : Nat} {z : Int} (h : o[i]? = some z) (hij : i < j) : z ∈ o.take j :=
  List.mem_of_getElem? (i := i) (by rw [List.getElem?_take, if_pos hij]; exact h)
set_option maxHeartbeats 6400000 in
set_option maxRecDepth 100000 in
theorem refOrdG_any (a : Option Addr) (n c : Nat) (l : List (Int × Int)) (z : Int) (ai : Option Addr) (m ci : Nat) (o : List Int) (w : World) (h : Has w a (gv l)) (hl : l.length = n) (hA : a = none → c = 0) (hi : Has w ai (iv o)) (hil : o.length = m) (hn : n ≤ 1000000) (hm : m ≤ 1000000) (hz1 : -9223372036854775808 ≤ z) (hz2 : z ≤ 9223372036854775807) :
    Calls Tryd.prog 38 #[.slice a n c, .int .i64 z, .slice ai m ci] w (ROrdIs a n c l z o w) := by
  have HH := Lib.hid h
  have HL := Lib.hid hl
  have HA := Lib.hid hA
  have HI := Lib.hid hi
  have HIL := Lib.hid hil
  unfold ROrdIs
  clear h hl hA hi hil
  by_cases hz : 0 ≤ z ∧ (m : Int) ≤ (n : Int) - z
  case neg =>
    have hok : okO l z o = false := by simp only [okO, HL.out, HIL.out, Bool.and_eq_false_iff, decide_eq_false_iff_not]; omega
    have hor : ordG l z o = l := by rw [ordG, if_neg (by rw [hok]; decide)]
    rw [hok, hor]
    clear hok hor
    by_cases h0 : z < 0
    · have d0 : decide (z < 0) = true := by simpa using h0
      clear hz h0
      go_enter Tryd.func38, Tryd.ntmps38
      go_wp2_with fail
      refine bodyPost_ret (v := .tuple #[.slice a n c, .bool false]) (by simp [results, Tryd.results38, go_sem]) rfl ?_
      exact ⟨_, rfl, .inl ⟨rfl, HL.out, HH.out⟩, blw⟩
    · have d0 : decide (z < 0) = false := by simpa using h0
      by_cases h1 : (n : Int) < z
      · have d1 : decide ((n : Int) < z) = true := by simpa using h1
        clear hz h0 h1
        go_enter Tryd.func38, Tryd.ntmps38
        go_wp2_with fail
        refine bodyPost_ret (v := .tuple #[.slice a n c, .bool false]) (by simp [results, Tryd.results38, go_sem]) rfl ?_
        exact ⟨_, rfl, .inl ⟨rfl, HL.out, HH.out⟩, blw⟩
      · have d1 : decide ((n : Int) < z) = false := by simpa using h1
        have d2 : decide ((n : Int) - z < (m : Int)) = true := by simp only [decide_eq_true_eq]; omega
        have h0' : 0 ≤ z := by omega
        have h1' : z ≤ (n : Int) := by omega
        clear hz h0 h1
        go_enter Tryd.func38, Tryd.ntmps38
        go_wp2_with fail
        refine bodyPost_ret (v := .tuple #[.slice a n c, .bool false]) (by simp [results, Tryd.results38, go_sem]) rfl ?_
        exact ⟨_, rfl, .inl ⟨rfl, HL.out, HH.out⟩, blw⟩
  obtain ⟨f, rfl⟩ : ∃ f : Nat, z = f := ⟨z.toNat, by omega⟩
  have hfm : f + m ≤ n := by omega
  have d0 : decide ((f : Int) < 0) = false := by simp
  have d1 : decide ((n : Int) < (f : Int)) = false := by simp; omega
  have d2 : decide ((n : Int) - (f : Int) < (m : Int)) = false := by simp only [decide_eq_false_iff_not]; omega
  have d3 : decide (n < f) = false := by simp; omega
  have HBAD := Lib.hid (fun (hno : ¬ IsOrd o) => show okO l (f : Nat) o = false ∧ ordG l (f : Nat) o = l by
    have hok : okO l (f : Nat) o = false := by simp only [okO, decide_eq_false hno, Bool.and_false]
    exact ⟨hok, by rw [ordG, if_neg (by rw [hok]; decide)]⟩)
  have HGOOD := Lib.hid (fun (hyes : IsOrd o) => show okO l (f : Nat) o = true ∧ ordG l (f : Nat) o = putO l f o m by
    have hok : okO l (f : Nat) o = true := by simp only [okO, decide_eq_true hyes, HIL.out, HL.out, Bool.and_eq_true, decide_eq_true_eq, and_true]; omega
    exact ⟨hok, by rw [ordG, if_pos hok, Int.toNat_natCast, HIL.out]⟩)
  clear hz
  go_enter Tryd.func38, Tryd.ntmps38
  go_wp2_with (at_builtin; refine wpAppGn rfl _ _ rfl w.heap.size _ [] l 0 rfl rfl (GRow.lit w [] _ (Nat.le_refl _) (Nat.zero_le _) #[] rfl) a n c rfl HL.out (HH.out.below (balloc (brefl w) _)) HA.out (by omega) (by simp) ?_; intro a2 c2 w2 hg2 hb2; rw [Nat.zero_add, List.nil_append] at *; have HO2 := Lib.hid (hg2.own HL.out); have HB2 := Lib.hid ((balloc (brefl w) _).trans hb2); clear hg2 hb2)
  go_loopw [10] (fun x wr => ∃ j : Nat, j ≤ m ∧ x = .int .i64 (j : Nat) ∧ OrdTo o j ∧ wr.ownsRow w.heap.size 53 2 (.slice a2 n c2) n (gv (putO l f o j)) ∧ Below w.heap.size w wr) (fun x _ => m - (Go.RowKit.intOf x).toNat)
  case atStart => exact ⟨0, Nat.zero_le _, rfl, ⟨by simp, by simp⟩, by rw [putO_zero]; exact HO2.out, HB2.out⟩
  case round =>
    obtain ⟨j, hj, rfl, hto, ho, hb⟩ := hrel
    have HT := Lib.hid hto
    have HO3 := Lib.hid ho
    have HB3 := Lib.hid hb
    have hzr := hb.size
    clear hto ho hb
    by_cases hlt : j < m
    · obtain ⟨gi, oi, x, rfl, hgi, hx, hci⟩ := iv_at (HI.out.below HB3.out) (k := j) (by rw [HIL.out]; exact hlt)
      have HX := Lib.hid hx
      clear hx
      by_cases h0 : x < 0
      · have HF := Lib.hid (HBAD.out (notOrd HX.out (.inl h0)))
        have e0 : decide (x < 0) = true := by simpa using h0
        go_wp2_with fail
        refine bodyPost_ret (v := .tuple #[.slice a n c, .bool false]) (by simp [results, Tryd.results38, go_sem]) rfl ?_
        exact ⟨_, by rw [HF.out.1], by rw [HF.out.2]; exact .inl ⟨rfl, HL.out, HH.out.below HB3.out⟩, HB3.out⟩
      have e0 : decide (x < 0) = false := by simpa using h0
      by_cases h1 : (m : Int) ≤ x
      · have HF := Lib.hid (HBAD.out (notOrd HX.out (.inr (.inl (by rw [HIL.out]; exact h1)))))
        have e1 : decide ((m : Int) ≤ x) = true := by simpa using h1
        go_wp2_with fail
        refine bodyPost_ret (v := .tuple #[.slice a n c, .bool false]) (by simp [results, Tryd.results38, go_sem]) rfl ?_
        exact ⟨_, by rw [HF.out.1], by rw [HF.out.2]; exact .inl ⟨rfl, HL.out, HH.out.below HB3.out⟩, HB3.out⟩
      obtain ⟨q, rfl⟩ : ∃ q : Nat, x = q := ⟨x.toNat, by omega⟩
      have hqm : q < m := by omega
      have e1 : decide ((m : Int) ≤ (q : Int)) = false := by simp; omega
      have e2 : decide (m ≤ q) = false := by simp; omega
      clear h0 h1
      go_wp2_with fail
      go_loopw [11] (fun x wv => ∃ i : Nat, i ≤ j ∧ x = .int .i64 (i : Nat) ∧ (∀ (k : Nat) y, k < i → o[k]? = some y → y ≠ (q : Int)) ∧ wv.ownsRow w.heap.size 53 2 (.slice a2 n c2) n (gv (putO l f o j)) ∧ Below w.heap.size w wv) (fun x _ => j - (Go.RowKit.intOf x).toNat)
      case atStart => exact ⟨0, Nat.zero_le _, rfl, fun k y hk => absurd hk (by omega), HO3.out, HB3.out⟩
      case round =>
        obtain ⟨i, hi, rfl, hno, ho, hb⟩ := hrel
        rename World => wv
        have HN := Lib.hid hno
        have HO4 := Lib.hid ho
        have HB4 := Lib.hid hb
        have hzv := hb.size
        clear hno ho hb HO3 HB3 hci
        by_cases hij : i < j
        · obtain ⟨gi', oi', y, he, _, hy, hcy⟩ := iv_at (HI.out.below HB4.out) (k := i) (by rw [HIL.out]; omega)
          obtain ⟨gi'', oi'', q', he'', _, hq', hcq⟩ := iv_at (HI.out.below HB4.out) (k := j) (by rw [HIL.out]; omega)
          cases he
          cases he''
          rw [HX.out] at hq'
          cases hq'
          by_cases hyq : y = (q : Int)
          · have HF := Lib.hid (HBAD.out (notOrd HX.out (.inr (.inr (mem_take_at (by rw [hy, hyq]) hij)))))
            have e3 : (y == (q : Int)) = true := by simpa using hyq
            clear hy
            subst hyq
            go_wp2_with fail
            refine wp_region_tree (.step 0 (.step 1 (.step 2 (.step 3 (.step 4 (.step 5 (.step 6 (.step 7 (.step 8 .nil))))))))) (by kernel_rfl) (by kernel_rfl) (by kernel_rfl) (by kernel_rfl) (by intro _ _ d_ _ _ h_; cases d_ <;> first | exact h_ | (dsimp +zetaDelta only at h_ ⊢; exact h_)) (fun w' => ∃ p : Wld wv [], w' = p.val) (wld_start _ _) ?_
            have hG_ := @wldC wv
            (refine tree_quiet (by simp only [List.getElem?_toArray, List.getElem?_cons_succ, List.getElem?_cons_zero]; rfl) (by rfl) (by rfl) (fun K_ hK_ => ?_); go_big_quiet_op; refine hK_ _ ?_; clear hK_ K_)
            (refine tree_quiet (by simp only [List.getElem?_toArray, List.getElem?_cons_succ, List.getElem?_cons_zero]; rfl) (by rfl) (by rfl) (fun K_ hK_ => ?_); go_big_quiet_op; refine hK_ _ ?_; clear hK_ K_)
            (refine tree_quiet (by simp only [List.getElem?_toArray, List.getElem?_cons_succ, List.getElem?_cons_zero]; rfl) (by rfl) (by rfl) (fun K_ hK_ => ?_); go_big_quiet_op; refine hK_ _ ?_; clear hK_ K_)
            (refine tree_quiet (by simp only [List.getElem?_toArray, List.getElem?_cons_succ, List.getElem?_cons_zero]; rfl) (by rfl) (by rfl) (fun K_ hK_ => ?_); go_big_quiet_op; refine hK_ _ ?_; clear hK_ K_)
            (refine tree_quiet (by simp only [List.getElem?_toArray, List.getElem?_cons_succ, List.getElem?_cons_zero]; rfl) (by rfl) (by rfl) (fun K_ hK_ => ?_); go_big_quiet_op; refine hK_ _ ?_; clear hK_ K_)
            (refine tree_quiet (by simp only [List.getElem?_toArray, List.getElem?_cons_succ, List.getElem?_cons_zero]; rfl) (by rfl) (by rfl) (fun K_ hK_ => ?_); go_big_quiet_op; refine hK_ _ ?_; clear hK_ K_)
            (refine tree_quiet (by simp only [List.getElem?_toArray, List.getElem?_cons_succ, List.getElem?_cons_zero]; rfl) (by rfl) (by rfl) (fun K_ hK_ => ?_); go_big_quiet_op; refine hK_ _ ?_; clear hK_ K_)
            (refine tree_quiet (by simp only [List.getElem?_toArray, List.getElem?_cons_succ, List.getElem?_cons_zero]; rfl) (by rfl) (by rfl) (fun K_ hK_ => ?_); go_big_quiet_op; refine hK_ _ ?_; clear hK_ K_)
            (refine tree_quiet (by simp only [List.getElem?_toArray, List.getElem?_cons_succ, List.getElem?_cons_zero]; rfl) (by rfl) (by rfl) (fun K_ hK_ => ?_); go_big_quiet_op; refine hK_ _ ?_; clear hK_ K_)
            refine tree_nil ?_
            clear hG_
            go_wp2_with fail
            refine bodyPost_ret (v := .tuple #[.slice a n c, .bool false]) (by simp [results, Tryd.results38, go_sem]) rfl ?_
            exact ⟨_, by rw [HF.out.1], by rw [HF.out.2]; exact .inl ⟨rfl, HL.out, HH.out.below HB4.out.drew⟩, HB4.out.drew⟩
          · have e3 : (y == (q : Int)) = false := by simpa using hyq
            have HY := Lib.hid hy
            clear hy
            go_wp2_with fail
            refine wp_region_tree (.step 0 (.step 1 (.step 2 (.step 3 (.step 4 (.step 5 (.step 6 (.step 7 (.step 8 .nil))))))))) (by kernel_rfl) (by kernel_rfl) (by kernel_rfl) (by kernel_rfl) (by intro _ _ d_ _ _ h_; cases d_ <;> first | exact h_ | (dsimp +zetaDelta only at h_ ⊢; exact h_)) (fun w' => ∃ p : Wld wv [], w' = p.val) (wld_start _ _) ?_
            have hG_ := @wldC wv
            (refine tree_quiet (by simp only [List.getElem?_toArray, List.getElem?_cons_succ, List.getElem?_cons_zero]; rfl) (by rfl) (by rfl) (fun K_ hK_ => ?_); go_big_quiet_op; refine hK_ _ ?_; clear hK_ K_)
            (refine tree_quiet (by simp only [List.getElem?_toArray, List.getElem?_cons_succ, List.getElem?_cons_zero]; rfl) (by rfl) (by rfl) (fun K_ hK_ => ?_); go_big_quiet_op; refine hK_ _ ?_; clear hK_ K_)
            (refine tree_quiet (by simp only [List.getElem?_toArray, List.getElem?_cons_succ, List.getElem?_cons_zero]; rfl) (by rfl) (by rfl) (fun K_ hK_ => ?_); go_big_quiet_op; refine hK_ _ ?_; clear hK_ K_)
            (refine tree_quiet (by simp only [List.getElem?_toArray, List.getElem?_cons_succ, List.getElem?_cons_zero]; rfl) (by rfl) (by rfl) (fun K_ hK_ => ?_); go_big_quiet_op; refine hK_ _ ?_; clear hK_ K_)
            (refine tree_quiet (by simp only [List.getElem?_toArray, List.getElem?_cons_succ, List.getElem?_cons_zero]; rfl) (by rfl) (by rfl) (fun K_ hK_ => ?_); go_big_quiet_op; refine hK_ _ ?_; clear hK_ K_)
            (refine tree_quiet (by simp only [List.getElem?_toArray, List.getElem?_cons_succ, List.getElem?_cons_zero]; rfl) (by rfl) (by rfl) (fun K_ hK_ => ?_); go_big_quiet_op; refine hK_ _ ?_; clear hK_ K_)
            (refine tree_quiet (by simp only [List.getElem?_toArray, List.getElem?_cons_succ, List.getElem?_cons_zero]; rfl) (by rfl) (by rfl) (fun K_ hK_ => ?_); go_big_quiet_op; refine hK_ _ ?_; clear hK_ K_)
            (refine tree_quiet (by simp only [List.getElem?_toArray, List.getElem?_cons_succ, List.getElem?_cons_zero]; rfl) (by rfl) (by rfl) (fun K_ hK_ => ?_); go_big_quiet_op; refine hK_ _ ?_; clear hK_ K_)
            (refine tree_quiet (by simp only [List.getElem?_toArray, List.getElem?_cons_succ, List.getElem?_cons_zero]; rfl) (by rfl) (by rfl) (fun K_ hK_ => ?_); go_big_quiet_op; refine hK_ _ ?_; clear hK_ K_)
            refine tree_nil ?_
            clear hG_
            go_wp2_with fail
            go_roundw
            case rel =>
              refine ⟨i + 1, hij, by go_num, fun k y' hk hy' => ?_, HO4.out, HB4.out.drew⟩
              by_cases hki : k = i
              · subst hki
                rw [HY.out] at hy'
                cases hy'
                exact hyq
              · exact HN.out k y' (by omega) hy'
            case measure => simp [Go.RowKit.intOf]; omega
        · obtain rfl : j = i := by omega
          have HT2 := Lib.hid (HT.out.succ HX.out (by omega) (by rw [HIL.out]; omega) (notMem_take HN.out))
          obtain ⟨gi'', oi'', q', he'', _, hq', hcq⟩ := iv_at (HI.out.below HB4.out) (k := j) (by rw [HIL.out]; omega)
          cases he''
          rw [HX.out] at hq'
          cases hq'
          obtain ⟨gl, ol, p, ha, hgl, hp, c1, c2'⟩ := gv_at (HH.out.below HB4.out) (k := f + q) (by rw [HL.out]; omega)
          subst ha
          have hpl : (putO l f o j).length = n := by rw [putO_length _ _ _ _ (by rw [HIL.out]; omega) (by rw [HL.out]; omega), HL.out]
          obtain ⟨g2, _, rfl, hg2, hg2w, _, k1, k2, f1, f2, hset1, _⟩ := grow_at HO4.out hpl (j := f + j) (by omega)
          have hS : ((wv.setCell ⟨g2, (f + j) * 2, none⟩ (.int .i64 p.1)).setCell ⟨g2, (f + j) * 2 + 1, none⟩ (.int .i64 p.2)).ownsRow w.heap.size 53 2 (.slice (some ⟨g2, 0, none⟩) n c2) n (gv (putO l f o (j + 1))) := by
            obtain ⟨_, _, _, he, _, _, _, _, _, hx⟩ := row_at HO4.out ((f + j) * 2) (by omega)
            cases he
            obtain ⟨_, _, _, he, _, _, _, _, _, hy⟩ := row_at (hx (.int .i64 p.1)) ((f + j) * 2 + 1) (by omega)
            cases he
            have := hy (.int .i64 p.2)
            rwa [gv_set, putO_set l f o j q p HX.out hp (by rw [HL.out]; omega)] at this
          have HS := Lib.hid hS
          have HBS := Lib.hid ((HB4.out.setCell (p := ⟨g2, (f + j) * 2, none⟩) hg2 (.int .i64 p.1)).setCell (p := ⟨g2, (f + j) * 2 + 1, none⟩) hg2 (.int .i64 p.2))
          obtain ⟨p1, p2⟩ := p
          simp only at c1 c2'
          clear hS hset1 hp hpl
          go_wp2_with fail
          go_roundw
          case rel => exact ⟨j + 1, hlt, by go_num, HT2.out, HS.out, HBS.out⟩
          case measure => simp [Go.RowKit.intOf]; omega
    · obtain rfl : m = j := by omega
      have hto := HT.out
      rw [← HIL.out] at hto
      have HF := Lib.hid (HGOOD.out hto.all)
      clear hto
      go_wp2_with fail
      refine bodyPost_ret (v := .tuple #[.slice a2 n c2, .bool true]) (by simp [results, Tryd.results38, go_sem]) rfl ?_
      have hpl : (putO l f o m).length = n := by rw [putO_length _ _ _ _ (Nat.le_of_eq HIL.out.symm) (by rw [HL.out]; omega), HL.out]
      exact ⟨_, by rw [HF.out.1], by rw [HF.out.2]; exact .inr ⟨a2, c2, by rw [hpl], by rw [hpl]; exact HO3.out⟩, HB3.out⟩
end Go.Proofs.YtlhnfpkenlenjaaDoor
end
section

/- What an argument of glyphs, and one of numbers, is. No condition. -/
namespace Go.Proofs.YtlhnfpkenlenjaaDoor
open Go.ChangeShapes Go.WideShapes Go.ChangeAt Go.RowKit

section
variable {H : Type} {enc : TypeId × Value → H}
theorem open_glyphs0 {P : Program} {W : World} {base : Nat} {t e : TypeId} {f0 f1 : Field} {v : Value} {d : DataW H} {p : List MemPlace} (ht : P.underlying t = some (.slice e)) (he : P.underlying e = some (.struct #[f0, f1]))
    (h0 : P.underlying f0.type = some (.int .i64)) (h1 : P.underlying f1.type = some (.int .i64)) (o0 : f0.offset = 0) (o1 : f1.offset = 1) (c0 : P.cellsOf f0.type = 1) (c1 : P.cellsOf f1.type = 1) (ce : P.cellsOf e = 2)
    (hv : Value.okWide P W .any base t v) (h : DataW.Trod enc P W 0 (fun _ => true) true t v d p) :
    ∃ (a : Option Addr) (n c : Nat) (zs : List (Int × Int)), v = .slice a n c ∧ zs.length = n ∧ n ≤ c ∧ c ≤ maxLen ∧ (a = none → c = 0) ∧ Has W a (gv zs) := by
  obtain ⟨a, n, c, us, rfl, hl, hn, hc, hA, hh, hx⟩ := open_rows ht hv h
  have key : ∀ us : List (List Value), (∀ x ∈ us, x.length = P.cellsOf e ∧ ∃ m y, DataW.trod enc P W 0 (fun _ => true) true m e x = some y) → ∃ zs : List (Int × Int), zs.length = us.length ∧ us.flatten = gv zs := by
    intro us
    induction us with
    | nil => exact fun _ => ⟨[], rfl, rfl⟩
    | cons x us ih =>
      intro h
      obtain ⟨zs, q1, q2⟩ := ih (fun y hy => h y (by simp [hy]))
      obtain ⟨hlx, m, y, hy⟩ := h x (by simp)
      obtain ⟨y0, y1, k, _, _, t0, t1⟩ := Go.ChangeShapes.trod_struct2 he hy
      rw [o0, c0] at t0
      rw [o1, c1] at t1
      obtain ⟨z0, e0, _, w0⟩ := DataW.trod_int h0 t0
      obtain ⟨z1, e1, _, w1⟩ := DataW.trod_int h1 t1
      rw [ce] at hlx
      have hxe : x = [.int .i64 z0, .int .i64 z1] := by
        match x, hlx with
        | [x0, x1], _ =>
          simp at e0 e1
          rw [e0, e1]
      exact ⟨(z0, z1) :: zs, by simp [q1], by rw [List.flatten_cons, hxe, q2]; rfl⟩
  obtain ⟨zs, q1, q2⟩ := key us hx
  exact ⟨a, n, c, zs, rfl, q1.trans hl, hn, hc, hA, q2 ▸ hh⟩
set_option maxRecDepth 100000 in
theorem open_glyphs {W : World} {base : Nat} {v : Value} {d : DataW H} {p : List MemPlace} (hv : Value.okWide Tryd.prog W .any base 45 v) (h : DataW.Trod enc Tryd.prog W 0 (fun _ => true) true 45 v d p) :
    ∃ (a : Option Addr) (n c : Nat) (zs : List (Int × Int)), v = .slice a n c ∧ zs.length = n ∧ n ≤ c ∧ c ≤ maxLen ∧ (a = none → c = 0) ∧ Has W a (gv zs) :=
  open_glyphs0 Tryd.underlying45 Tryd.underlying53 (by kernel_rfl) (by kernel_rfl) rfl rfl (by kernel_rfl) (by kernel_rfl) (by kernel_rfl) hv h
set_option maxRecDepth 100000 in
theorem open_ids {W : World} {base : Nat} {v : Value} {d : DataW H} {p : List MemPlace} (hv : Value.okWide Tryd.prog W .any base 27 v) (h : DataW.Trod enc Tryd.prog W 0 (fun _ => true) true 27 v d p) :
    ∃ (a : Option Addr) (n c : Nat) (zs : List Int), v = .slice a n c ∧ zs.length = n ∧ n ≤ c ∧ c ≤ maxLen ∧ (a = none → c = 0) ∧ Has W a (iv zs) ∧ ∀ z ∈ zs, -9223372036854775808 ≤ z ∧ z ≤ 9223372036854775807 := by
  obtain ⟨a, n, c, zs, h1, h2, h3, h4, h5, h6, h7⟩ := open_nums Tryd.underlying27 Tryd.underlying3 hv h
  exact ⟨a, n, c, zs, h1, h2, h3, h4, h5, h6, fun z hz => wf_i64 (h7 z hz)⟩
/-- A change as an argument: what it does, where, and by which numbers. -/
structure OpA where
  k : Int
  z : Int
  a : Option Addr
  c : Nat
  ids : List Int
def OpA.v (o : OpA) : List Value := [.int .i64 o.k, .int .i64 o.z, .slice o.a o.ids.length o.c]
set_option maxRecDepth 100000 in
theorem open_idsC {W : World} {f : Nat} {v : Value} {y : DataW H × List MemPlace} (h : DataW.trod enc Tryd.prog W 0 (fun _ => true) true f 27 [v] = some y) :
    ∃ (a : Option Addr) (c : Nat) (zs : List Int), v = .slice a zs.length c ∧ Has W a (iv zs) := by
  obtain ⟨a, n, c, us, rfl, hl, _, _, _, hh, hx⟩ := open_rows_cell Tryd.underlying27 h
  have key : ∀ us : List (List Value), (∀ x ∈ us, x.length = Tryd.prog.cellsOf 3 ∧ ∃ m y, DataW.trod enc Tryd.prog W 0 (fun _ => true) true m 3 x = some y) → ∃ zs : List Int, zs.length = us.length ∧ us.flatten = iv zs := by
    intro us
    induction us with
    | nil => exact fun _ => ⟨[], rfl, rfl⟩
    | cons x us ih =>
      intro h
      obtain ⟨zs, q1, q2⟩ := ih (fun y hy => h y (by simp [hy]))
      obtain ⟨_, m, y, hy⟩ := h x (by simp)
      obtain ⟨z, rfl, _, _⟩ := DataW.trod_int Tryd.underlying3 hy
      exact ⟨z :: zs, by simp [q1], by rw [List.flatten_cons, q2]; rfl⟩
  obtain ⟨zs, q1, q2⟩ := key us hx
  exact ⟨a, c, zs, by rw [q1, hl], q2 ▸ hh⟩
end
end Go.Proofs.YtlhnfpkenlenjaaDoor
end
