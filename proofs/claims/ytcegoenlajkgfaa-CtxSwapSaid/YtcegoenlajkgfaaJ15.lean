/- Joined from: CTake DRef DWay KRef DRun. -/
import Derived.Test.YtcegoenlajkgfaaJ14
import Derived.Test.YtcegoenlajkgfaaJ12
import Derived.Test.YtcegoenlajkgfaaJ13
import Derived.Test.YtcegoenlajkgfaaJ08
section

/- ctx.Take: such a subtable that a View begins with, or it throws. Conditions: as many bytes as the slice says. -/
namespace Go.Proofs.Ytcegoenlajkgfaa
open Go.RowKit Go.Lib

theorem vb_off (bs : List UInt8) (i : Nat) : (bs.drop (num bs 16 4)).drop (num (bs.drop (num bs 16 4)) (4 * i) 4) = bs.drop (offC bs i) := by
  rw [num_dropS, List.drop_drop]
  rfl
theorem list_of_cok {bs : List UInt8} {glyphs : Nat} {rs : List RP} {S : Nat} {qs : List (List RP)} (h : COk bs glyphs rs S qs) : ListOk (bs.drop (num bs 16 4)) glyphs (cntC bs (needE bs S)) qs := by
  have hat := h.at_
  refine ⟨?_, h.len, fun i q hq => ?_⟩
  · rw [List.length_drop]
    rcases Nat.eq_zero_or_pos (cntC bs (needE bs S)) with h0 | h0
    · omega
    · obtain ⟨q, hq⟩ : ∃ q, qs[cntC bs (needE bs S) - 1]? = some q := ⟨_, List.getElem?_eq_getElem (by rw [h.len]; omega)⟩
      have := (h.each _ _ hq).at_
      omega
  · have hk := h.each i q hq
    have ho := hk.off
    refine ⟨?_, by rw [vb_off]; exact hk.ok⟩
    rw [num_dropS, List.length_drop]
    unfold offC at ho
    omega
theorem cok_of_list {bs : List UInt8} {glyphs : Nat} {rs : List RP} {S : Nat} {qs : List (List RP)} (hm : MOk bs glyphs 2 rs S) (h20 : 20 ≤ bs.length) (hat : num bs 16 4 ≤ bs.length) (h : ListOk (bs.drop (num bs 16 4)) glyphs (cntC bs (needE bs S)) qs) : COk bs glyphs rs S qs := by
  refine ⟨hm, h20, hat, h.len, fun i q hq => ?_⟩
  have hlt := (List.getElem?_eq_some_iff.1 hq).1
  have hl := h.at_
  obtain ⟨h1, h2⟩ := h.each i q hq
  rw [List.length_drop] at hl h1
  rw [num_dropS] at h1
  rw [vb_off] at h2
  rw [h.len] at hlt
  refine ⟨by omega, ?_, h2⟩
  unfold offC
  omega
/-- Such a subtable in memory. -/
structure CIs (B gt : Nat) (bs : List UInt8) (rs : List RP) (S : Nat) (qs : List (List RP)) (w : World) : Prop where
  is : ∃ (g go : Nat) (ps : List Nat), w.heap[gt]? = some (.cells #[.pointer (some ⟨g, 0, none⟩), .slice (some ⟨go, 0, none⟩) qs.length qs.length] 99 (0, 0)) ∧ MIs B g bs 2 rs S w ∧
    w.ownsRow B 123 1 (.slice (some ⟨go, 0, none⟩) qs.length qs.length) qs.length (ps.map fun g => ptrV (some g)) ∧ ps.length = qs.length ∧ ∀ i q g, qs[i]? = some q → ps[i]? = some g → ∃ fmt, TabIs B g fmt (tabR (bs.drop (offC bs i)) q).1 (tabR (bs.drop (offC bs i)) q).2 w
  ge : B ≤ gt
theorem CIs.below {B gt : Nat} {bs : List UInt8} {rs : List RP} {S : Nat} {qs : List (List RP)} {w w' : World} (h : CIs B gt bs rs S qs w) (hb : Below w.heap.size w w') : CIs B gt bs rs S qs w' := by
  obtain ⟨g, go, ps, h1, h2, h3, h4, h5⟩ := h.is
  exact ⟨⟨g, go, ps, (hb.block gt (Array.getElem?_eq_some_iff.1 h1).1).trans h1, h2.below hb, owns_below h3 hb (Nat.le_refl _), h4, fun i q g hi hp => by obtain ⟨f, h⟩ := h5 i q g hi hp; exact ⟨f, h.below hb⟩⟩, h.ge⟩
theorem CIs.mono {B B' gt : Nat} {bs : List UInt8} {rs : List RP} {S : Nat} {qs : List (List RP)} {w : World} (h : CIs B gt bs rs S qs w) (hB : B' ≤ B) : CIs B' gt bs rs S qs w := by
  obtain ⟨g, go, ps, h1, h2, h3, h4, h5⟩ := h.is
  exact ⟨⟨g, go, ps, h1, h2.mono hB, owns_mono h3 hB, h4, fun i q g hi hp => by obtain ⟨f, h⟩ := h5 i q g hi hp; exact ⟨f, h.monoM hB⟩⟩, Nat.le_trans hB h.ge⟩
def CTkIs (bs : List UInt8) (glyphs : Nat) (w : World) (e : Ending) (w' : World) : Prop :=
  ((∃ rs S qs gt, COk bs glyphs rs S qs ∧ e = .returned (.pointer (some ⟨gt, 0, none⟩)) ∧ CIs w.heap.size gt bs rs S qs w') ∨ ((∀ rs S qs, ¬ COk bs glyphs rs S qs) ∧ e = .panicked thrown)) ∧ Below w.heap.size w w'
theorem set1_new {w0 w1 : World} {x0 v0 : Value} {t : TypeId} (h : Below (w0.alloc (.cells #[x0] t)).heap.size (w0.alloc (.cells #[x0] t)) w1) : (w1.setCell ⟨w0.heap.size, 0, none⟩ v0).heap[w0.heap.size]? = some (.cells #[v0] t (0, 0)) := by
  have h1 : w1.heap[w0.heap.size]? = some (.cells #[x0] t (0, 0)) := (h.block w0.heap.size (by simp)).trans (by rw [heap_push, if_pos rfl])
  simp [World.setCell, Array.getElem?_modify, h1]
theorem set1_newd {w0 w1 : World} {x0 v0 : Value} {t : TypeId} (h : Below (w0.alloc (.cells #[x0] t)).drew.heap.size (w0.alloc (.cells #[x0] t)).drew w1) : (w1.setCell ⟨w0.heap.size, 0, none⟩ v0).heap[w0.heap.size]? = some (.cells #[v0] t (0, 0)) := set1_new ((Below.refl _ _).drew.trans h)
set_option maxRecDepth 100000 in
set_option maxHeartbeats 6400000 in
theorem ctake_any (a : Option Addr) (n c : Nat) (bs : List UInt8) (glyphs : Nat) (zg : Int) (hzg : zg = (glyphs : Nat)) (w : World) (hh : Has w a (bytesV bs)) (hbl : bs.length = n) (hnc : n ≤ c) (hc : c ≤ maxLen) (hg1 : 1 ≤ glyphs) (hg2 : glyphs ≤ 65535) :
    Calls Try.prog 26 #[.agg #[.slice a n c], .int .i64 zg] w (CTkIs bs glyphs w) := by
  have hAC := allocC
  have hAF := allocF
  subst hzg
  have HH := Lib.hid hh
  have HL := Lib.hid hbl
  have HUB := Lib.hid (fun (z : Int) (hz : ¬ (0 ≤ z ∧ z + 4 ≤ (n : Int))) W => u32_bad a n c z W hz hnc hc)
  have HU := Lib.hid (fun (j : Nat) (z : Int) (hz : z = (j : Nat)) (W : World) (hW : Below w.heap.size w W) (hj : j + 4 ≤ n) => u32_z a n c j z hz bs W (hh.below hW) hbl hj hnc hc)
  have HRS := Lib.hid (fun (j : Nat) (hj : j ≤ n) W => rest_ok a n c j W hj hnc hc)
  have HRB := Lib.hid (fun (j : Nat) (hj : n < j) W => rest_bad a n c (j : Nat) W (.inr (by omega)))
  clear hh hbl
  by_cases hmo : ∃ rs S, MOk bs glyphs 2 rs S
  case neg =>
    have HNO := Lib.hid (show ∀ rs S qs, ¬ COk bs glyphs rs S qs from fun rs S qs ho => hmo ⟨rs, S, ho.mok⟩)
    have HTB := Lib.hid (fun W (hW : Below w.heap.size w W) => show Calls Try.prog 56 #[.agg #[.slice a n c], .int .i64 (glyphs : Nat), .int .i64 2] W fun e w' => e = .panicked thrown ∧ Below W.heap.size W w' from mtake_bad a n c bs glyphs 2 W (HH.out.below hW) HL.out hnc hc hg1 hg2 (by decide) (fun rs S h => hmo ⟨rs, S, h⟩))
    clear hmo
    go_enter Try.func26, Try.ntmps26
    go_wp2_with (first | (go_at_call 56; (with_reducible refine (HTB.out _ (by exact blw)).mono ?_); rintro e w1 ⟨rfl, hb1⟩; have h1c := bc hb1; have h1f := bf hb1; have h1z := hb1.size; try simp only [World.size_alloc, World.size_drew] at h1z))
    exact ⟨rfl, .inr ⟨HNO.out, rfl⟩, blw⟩
  obtain ⟨rs, S, hmo⟩ := hmo
  have HMO := Lib.hid hmo
  have HTM := Lib.hid (fun W (hW : Below w.heap.size w W) => show Calls Try.prog 56 #[.agg #[.slice a n c], .int .i64 (glyphs : Nat), .int .i64 2] W fun e w' => ∃ g, e = .returned (.pointer (some ⟨g, 0, none⟩)) ∧ MIs W.heap.size g bs 2 rs S w' ∧ Below W.heap.size W w' from mtake_ok a n c bs glyphs 2 rs S W (HH.out.below hW) HL.out hnc hc hg1 hg2 (by decide) hmo)
  clear hmo
  go_enter Try.func26, Try.ntmps26
  go_wp2_with (first | (go_at_call 56; (with_reducible refine (HTM.out _ (by exact blw)).mono ?_); rintro e w1 ⟨g, rfl, hM, hb1⟩; have HM1 := Lib.hid hM; have HW1 := Lib.hid (show Below w.heap.size w w1 from by exact blw); have h1z := hb1.size; have c2 := (hb1.block w.heap.size (by simp)).trans (show (w.alloc (.cells #[.slice a n c] 69)).heap[w.heap.size]? = some (.cells #[.slice a n c] 69 (0, 0)) from by rw [heap_push, if_pos rfl]); simp only [World.size_alloc] at h1z; clear hM hb1))
  have Z2 := Lib.hid c2
  have q2 := cell_of_heap c2 0
  simp only [List.getElem?_toArray, List.getElem?_cons_zero] at q2
  have hg2w : w.heap.size < w1.heap.size := by omega
  clear c2 HTM
  by_cases h20 : 20 ≤ n
  case neg =>
    have HNO := Lib.hid (show ∀ rs S qs, ¬ COk bs glyphs rs S qs from fun rs S qs ho => h20 (by have := ho.l20; rw [HL.out] at this; exact this))
    have HB1 := Lib.hid (HUB.out 16 (by omega))
    refine wp_region_tree (.step 0 (.step 1 (.two 2 (.two 3 (.step 4 (.step 5 .nil)) 4 (.step 3 (.step 5 .nil))) 4 (.step 2 (.step 3 (.step 5 .nil)))))) (by kernel_rfl) (by kernel_rfl) (by kernel_rfl) (by kernel_rfl) (by intro _ _ d_ _ _ h_; cases d_ <;> first | exact h_ | (dsimp +zetaDelta only at h_ ⊢; exact h_)) (fun w' => ∃ p : Wld w1 [], w' = p.val) (wld_start _ _) ?_
    have hG_ := @wldC w1
    (refine tree_quiet (by simp only [List.getElem?_toArray, List.getElem?_cons_succ, List.getElem?_cons_zero]; rfl) (by rfl) (by rfl) (fun K_ hK_ => ?_); go_big_quiet_op; refine hK_ _ ?_; clear hK_ K_)
    (refine tree_quiet (by simp only [List.getElem?_toArray, List.getElem?_cons_succ, List.getElem?_cons_zero]; rfl) (by rfl) (by rfl) (fun K_ hK_ => ?_); go_big_quiet_op; refine hK_ _ ?_; clear hK_ K_)
    refine tree_two (by simp only [List.getElem?_toArray, List.getElem?_cons_succ, List.getElem?_cons_zero]; rfl) (by simp only [List.getElem?_toArray, List.getElem?_cons_succ, List.getElem?_cons_zero]; rfl) (by rfl) (by rfl) (fun K_ hK_ => ?_) (fun K_ hK_ => ?_)
    · have HK_ := Lib.hid hK_; clear hK_; go_wp2_with ((go_at_call 58; (with_reducible refine (HB1.out _).mono ?_); rintro e wa ⟨rfl, hba⟩; have hac := bc hba; have haf := bf hba; have haz := hba.size; try simp only [World.size_alloc, World.size_drew] at haz)); exact ⟨rfl, .inr ⟨HNO.out, rfl⟩, HW1.out.trans (Below.mono (w := w1) (by exact blw) HW1.out.size)⟩
    · have HK_ := Lib.hid hK_; clear hK_; go_wp2_with ((go_at_call 58; (with_reducible refine (HB1.out _).mono ?_); rintro e wa ⟨rfl, hba⟩; have hac := bc hba; have haf := bf hba; have haz := hba.size; try simp only [World.size_alloc, World.size_drew] at haz)); refine HK_.out _ _ (wld_ofA) ?_; clear HK_
      (refine tree_run (by simp only [List.getElem?_toArray, List.getElem?_cons_succ, List.getElem?_cons_zero]; rfl) (by rfl) (by rfl) (fun K_ hK_ => ?_); have HK_ := Lib.hid hK_; clear hK_; go_wp2_with ((go_at_call 58; (with_reducible refine (HB1.out _).mono ?_); rintro e wa ⟨rfl, hba⟩; have hac := bc hba; have haf := bf hba; have haz := hba.size; try simp only [World.size_alloc, World.size_drew] at haz)); exact ⟨rfl, .inr ⟨HNO.out, rfl⟩, HW1.out.trans (Below.mono (w := w1) (by exact blw) HW1.out.size)⟩)
  have HU16 := Lib.hid (fun W hW => HU.out 16 16 rfl W hW h20)
  have hP16 := num4_lt bs 16
  obtain ⟨P, hP⟩ : ∃ P, P = num bs 16 4 := ⟨_, rfl⟩
  rw [← hP] at HU16 hP16
  have HP := Lib.hid hP
  clear hP
  by_cases hfP : P ≤ n
  case neg =>
    have HNO := Lib.hid (show ∀ rs S qs, ¬ COk bs glyphs rs S qs from fun rs S qs ho => hfP (by have := ho.at_; rw [HL.out, ← HP.out] at this; exact this))
    have HB1 := Lib.hid (HRB.out P (by omega))
    refine wp_region_tree (.step 0 (.step 1 (.two 2 (.two 3 (.step 4 (.step 5 .nil)) 4 (.step 3 (.step 5 .nil))) 4 (.step 2 (.step 3 (.step 5 .nil)))))) (by kernel_rfl) (by kernel_rfl) (by kernel_rfl) (by kernel_rfl) (by intro _ _ d_ _ _ h_; cases d_ <;> first | exact h_ | (dsimp +zetaDelta only at h_ ⊢; exact h_)) (fun w' => ∃ p : Wld w1 [], w' = p.val) (wld_start _ _) ?_
    have hG_ := @wldC w1
    (refine tree_quiet (by simp only [List.getElem?_toArray, List.getElem?_cons_succ, List.getElem?_cons_zero]; rfl) (by rfl) (by rfl) (fun K_ hK_ => ?_); go_big_quiet_op; refine hK_ _ ?_; clear hK_ K_)
    (refine tree_quiet (by simp only [List.getElem?_toArray, List.getElem?_cons_succ, List.getElem?_cons_zero]; rfl) (by rfl) (by rfl) (fun K_ hK_ => ?_); go_big_quiet_op; refine hK_ _ ?_; clear hK_ K_)
    refine tree_two (by simp only [List.getElem?_toArray, List.getElem?_cons_succ, List.getElem?_cons_zero]; rfl) (by simp only [List.getElem?_toArray, List.getElem?_cons_succ, List.getElem?_cons_zero]; rfl) (by rfl) (by rfl) (fun K_ hK_ => ?_) (fun K_ hK_ => ?_)
    · have HK_ := Lib.hid hK_; clear hK_; go_wp2_with (first | (go_at_call 58; (with_reducible refine (HU16.out _ (HW1.out.trans (Below.mono (w := w1) (by exact blw) HW1.out.size))).mono ?_); rintro e wa ⟨rfl, hba⟩; have hac := bc hba; have haf := bf hba; have haz := hba.size; try simp only [World.size_alloc, World.size_drew] at haz) | (go_at_call 57; (with_reducible refine (HB1.out _).mono ?_); rintro e wb ⟨rfl, hbb⟩; have hbc := bc hbb; have hbf := bf hbb; have hbz := hbb.size; try simp only [World.size_alloc, World.size_drew] at hbz)); refine HK_.out _ _ (wld_ofA) ?_; clear HK_
      refine tree_two (by simp only [List.getElem?_toArray, List.getElem?_cons_succ, List.getElem?_cons_zero]; rfl) (by simp only [List.getElem?_toArray, List.getElem?_cons_succ, List.getElem?_cons_zero]; rfl) (by rfl) (by rfl) (fun K_ hK_ => ?_) (fun K_ hK_ => ?_)
      · have HK_ := Lib.hid hK_; clear hK_; go_wp2_with (first | (go_at_call 58; (with_reducible refine (HU16.out _ (HW1.out.trans (Below.mono (w := w1) (by exact blw) HW1.out.size))).mono ?_); rintro e wa ⟨rfl, hba⟩; have hac := bc hba; have haf := bf hba; have haz := hba.size; try simp only [World.size_alloc, World.size_drew] at haz) | (go_at_call 57; (with_reducible refine (HB1.out _).mono ?_); rintro e wb ⟨rfl, hbb⟩; have hbc := bc hbb; have hbf := bf hbb; have hbz := hbb.size; try simp only [World.size_alloc, World.size_drew] at hbz)); exact ⟨rfl, .inr ⟨HNO.out, rfl⟩, HW1.out.trans (Below.mono (w := w1) (by exact blw) HW1.out.size)⟩
      · have HK_ := Lib.hid hK_; clear hK_; go_wp2_with (first | (go_at_call 58; (with_reducible refine (HU16.out _ (HW1.out.trans (Below.mono (w := w1) (by exact blw) HW1.out.size))).mono ?_); rintro e wa ⟨rfl, hba⟩; have hac := bc hba; have haf := bf hba; have haz := hba.size; try simp only [World.size_alloc, World.size_drew] at haz) | (go_at_call 57; (with_reducible refine (HB1.out _).mono ?_); rintro e wb ⟨rfl, hbb⟩; have hbc := bc hbb; have hbf := bf hbb; have hbz := hbb.size; try simp only [World.size_alloc, World.size_drew] at hbz)); refine HK_.out _ _ (wld_ofA) ?_; clear HK_
        (refine tree_run (by simp only [List.getElem?_toArray, List.getElem?_cons_succ, List.getElem?_cons_zero]; rfl) (by rfl) (by rfl) (fun K_ hK_ => ?_); have HK_ := Lib.hid hK_; clear hK_; go_wp2_with (first | (go_at_call 58; (with_reducible refine (HU16.out _ (HW1.out.trans (Below.mono (w := w1) (by exact blw) HW1.out.size))).mono ?_); rintro e wa ⟨rfl, hba⟩; have hac := bc hba; have haf := bf hba; have haz := hba.size; try simp only [World.size_alloc, World.size_drew] at haz) | (go_at_call 57; (with_reducible refine (HB1.out _).mono ?_); rintro e wb ⟨rfl, hbb⟩; have hbc := bc hbb; have hbf := bf hbb; have hbz := hbb.size; try simp only [World.size_alloc, World.size_drew] at hbz)); exact ⟨rfl, .inr ⟨HNO.out, rfl⟩, HW1.out.trans (Below.mono (w := w1) (by exact blw) HW1.out.size)⟩)
    · have HK_ := Lib.hid hK_; clear hK_; go_wp2_with (first | (go_at_call 58; (with_reducible refine (HU16.out _ (HW1.out.trans (Below.mono (w := w1) (by exact blw) HW1.out.size))).mono ?_); rintro e wa ⟨rfl, hba⟩; have hac := bc hba; have haf := bf hba; have haz := hba.size; try simp only [World.size_alloc, World.size_drew] at haz) | (go_at_call 57; (with_reducible refine (HB1.out _).mono ?_); rintro e wb ⟨rfl, hbb⟩; have hbc := bc hbb; have hbf := bf hbb; have hbz := hbb.size; try simp only [World.size_alloc, World.size_drew] at hbz)); refine HK_.out _ _ (wld_ofA) ?_; clear HK_
      (refine tree_run (by simp only [List.getElem?_toArray, List.getElem?_cons_succ, List.getElem?_cons_zero]; rfl) (by rfl) (by rfl) (fun K_ hK_ => ?_); have HK_ := Lib.hid hK_; clear hK_; go_wp2_with (first | (go_at_call 58; (with_reducible refine (HU16.out _ (HW1.out.trans (Below.mono (w := w1) (by exact blw) HW1.out.size))).mono ?_); rintro e wa ⟨rfl, hba⟩; have hac := bc hba; have haf := bf hba; have haz := hba.size; try simp only [World.size_alloc, World.size_drew] at haz) | (go_at_call 57; (with_reducible refine (HB1.out _).mono ?_); rintro e wb ⟨rfl, hbb⟩; have hbc := bc hbb; have hbf := bf hbb; have hbz := hbb.size; try simp only [World.size_alloc, World.size_drew] at hbz)); refine HK_.out _ _ (wld_ofA) ?_; clear HK_)
      (refine tree_run (by simp only [List.getElem?_toArray, List.getElem?_cons_succ, List.getElem?_cons_zero]; rfl) (by rfl) (by rfl) (fun K_ hK_ => ?_); have HK_ := Lib.hid hK_; clear hK_; go_wp2_with (first | (go_at_call 58; (with_reducible refine (HU16.out _ (HW1.out.trans (Below.mono (w := w1) (by exact blw) HW1.out.size))).mono ?_); rintro e wa ⟨rfl, hba⟩; have hac := bc hba; have haf := bf hba; have haz := hba.size; try simp only [World.size_alloc, World.size_drew] at haz) | (go_at_call 57; (with_reducible refine (HB1.out _).mono ?_); rintro e wb ⟨rfl, hbb⟩; have hbc := bc hbb; have hbf := bf hbb; have hbz := hbb.size; try simp only [World.size_alloc, World.size_drew] at hbz)); exact ⟨rfl, .inr ⟨HNO.out, rfl⟩, HW1.out.trans (Below.mono (w := w1) (by exact blw) HW1.out.size)⟩)
  have HRP := Lib.hid (HRS.out P hfP)
  apply cutP (R := ∀ (g_ : Nat) (x_ : Nat → Value) (W_ : World), (fun g6 V6 => Below w1.heap.size w1 V6 ∧ w1.heap.size ≤ g6 ∧ V6.heap[g6]? = some (.cells #[.slice (adv a c P) (n - P) (c - P)] 69 (0, 0))) g_ W_ → _)
  · intro hfin_
    refine wp_region_tree (.step 0 (.step 1 (.two 2 (.two 3 (.step 4 (.step 5 .nil)) 4 (.step 3 (.step 5 .nil))) 4 (.step 2 (.step 3 (.step 5 .nil)))))) (by kernel_rfl) (by kernel_rfl) (by kernel_rfl) (by kernel_rfl) (by intro _ _ d_ _ _ h_; cases d_ <;> first | exact h_ | (dsimp +zetaDelta only at h_ ⊢; exact h_)) (fun w' => ∃ p : Wld w1 [], w' = p.val) (wld_start _ _) ?_
    have hG_ := @wldC w1
    (refine tree_quiet (by simp only [List.getElem?_toArray, List.getElem?_cons_succ, List.getElem?_cons_zero]; rfl) (by rfl) (by rfl) (fun K_ hK_ => ?_); go_big_quiet_op; refine hK_ _ ?_; clear hK_ K_)
    (refine tree_quiet (by simp only [List.getElem?_toArray, List.getElem?_cons_succ, List.getElem?_cons_zero]; rfl) (by rfl) (by rfl) (fun K_ hK_ => ?_); go_big_quiet_op; refine hK_ _ ?_; clear hK_ K_)
    refine tree_two (by simp only [List.getElem?_toArray, List.getElem?_cons_succ, List.getElem?_cons_zero]; rfl) (by simp only [List.getElem?_toArray, List.getElem?_cons_succ, List.getElem?_cons_zero]; rfl) (by rfl) (by rfl) (fun K_ hK_ => ?_) (fun K_ hK_ => ?_)
    · have HK_ := Lib.hid hK_; clear hK_; go_wp2_with (first | (go_at_call 58; (with_reducible refine (HU16.out _ (HW1.out.trans (Below.mono (w := w1) (by exact blw) HW1.out.size))).mono ?_); rintro e wa ⟨rfl, hba⟩; have hac := bc hba; have haf := bf hba; have haz := hba.size; try simp only [World.size_alloc, World.size_drew] at haz) | (go_at_call 57; (with_reducible refine (HRP.out _).mono ?_); rintro e wb ⟨rfl, hbb⟩; have hbc := bc hbb; have hbf := bf hbb; have hbz := hbb.size; try simp only [World.size_alloc, World.size_drew] at hbz)); refine HK_.out _ _ (wld_ofA) ?_; clear HK_
      refine tree_two (by simp only [List.getElem?_toArray, List.getElem?_cons_succ, List.getElem?_cons_zero]; rfl) (by simp only [List.getElem?_toArray, List.getElem?_cons_succ, List.getElem?_cons_zero]; rfl) (by rfl) (by rfl) (fun K_ hK_ => ?_) (fun K_ hK_ => ?_)
      · have HK_ := Lib.hid hK_; clear hK_; go_wp2_with (first | (go_at_call 58; (with_reducible refine (HU16.out _ (HW1.out.trans (Below.mono (w := w1) (by exact blw) HW1.out.size))).mono ?_); rintro e wa ⟨rfl, hba⟩; have hac := bc hba; have haf := bf hba; have haz := hba.size; try simp only [World.size_alloc, World.size_drew] at haz) | (go_at_call 57; (with_reducible refine (HRP.out _).mono ?_); rintro e wb ⟨rfl, hbb⟩; have hbc := bc hbb; have hbf := bf hbb; have hbz := hbb.size; try simp only [World.size_alloc, World.size_drew] at hbz)); refine HK_.out _ _ (wld_ofA) ?_; clear HK_
        (refine tree_run (by simp only [List.getElem?_toArray, List.getElem?_cons_succ, List.getElem?_cons_zero]; rfl) (by rfl) (by rfl) (fun K_ hK_ => ?_); have HK_ := Lib.hid hK_; clear hK_; go_wp2_with (first | (go_at_call 58; (with_reducible refine (HU16.out _ (HW1.out.trans (Below.mono (w := w1) (by exact blw) HW1.out.size))).mono ?_); rintro e wa ⟨rfl, hba⟩; have hac := bc hba; have haf := bf hba; have haz := hba.size; try simp only [World.size_alloc, World.size_drew] at haz) | (go_at_call 57; (with_reducible refine (HRP.out _).mono ?_); rintro e wb ⟨rfl, hbb⟩; have hbc := bc hbb; have hbf := bf hbb; have hbz := hbb.size; try simp only [World.size_alloc, World.size_drew] at hbz)); refine HK_.out _ _ (wld_ofA) ?_; clear HK_)
        (refine tree_run (by simp only [List.getElem?_toArray, List.getElem?_cons_succ, List.getElem?_cons_zero]; rfl) (by rfl) (by rfl) (fun K_ hK_ => ?_); have HK_ := Lib.hid hK_; clear hK_; go_wp2_with (first | (go_at_call 58; (with_reducible refine (HU16.out _ (HW1.out.trans (Below.mono (w := w1) (by exact blw) HW1.out.size))).mono ?_); rintro e wa ⟨rfl, hba⟩; have hac := bc hba; have haf := bf hba; have haz := hba.size; try simp only [World.size_alloc, World.size_drew] at haz) | (go_at_call 57; (with_reducible refine (HRP.out _).mono ?_); rintro e wb ⟨rfl, hbb⟩; have hbc := bc hbb; have hbf := bf hbb; have hbz := hbb.size; try simp only [World.size_alloc, World.size_drew] at hbz)); refine HK_.out _ _ (wld_ofA) ?_; clear HK_)
        refine tree_nil ?_
        refine leaf_any 6 [] (fun g6 V6 => Below w1.heap.size w1 V6 ∧ w1.heap.size ≤ g6 ∧ V6.heap[g6]? = some (.cells #[.slice (adv a c P) (n - P) (c - P)] 69 (0, 0))) _ (by rfl) (by first | (simp only [blank, List.setIfInBounds_toArray, List.set_cons_succ, List.set_cons_zero]; rfl) | simp only [blank, List.setIfInBounds_toArray, List.set_cons_succ, List.set_cons_zero]) (hfin_ ()) ?_
        (refine ⟨blw, ?_, ?_⟩ <;> first | omega | (simp only [World.size_setCell, World.size_alloc, World.size_drew]; omega) | (with_reducible exact set1_new (by assumption)) | (with_reducible exact set1_new (bthen (by assumption) (by assumption))) | (with_reducible exact set1_newd (by assumption)) | (with_reducible exact set1_newd (bthen (by assumption) (by assumption))) | (rw [heap_push, if_pos rfl]; done))
      · have HK_ := Lib.hid hK_; clear hK_; go_wp2_with (first | (go_at_call 58; (with_reducible refine (HU16.out _ (HW1.out.trans (Below.mono (w := w1) (by exact blw) HW1.out.size))).mono ?_); rintro e wa ⟨rfl, hba⟩; have hac := bc hba; have haf := bf hba; have haz := hba.size; try simp only [World.size_alloc, World.size_drew] at haz) | (go_at_call 57; (with_reducible refine (HRP.out _).mono ?_); rintro e wb ⟨rfl, hbb⟩; have hbc := bc hbb; have hbf := bf hbb; have hbz := hbb.size; try simp only [World.size_alloc, World.size_drew] at hbz)); refine HK_.out _ _ (wld_ofA) ?_; clear HK_
        (refine tree_run (by simp only [List.getElem?_toArray, List.getElem?_cons_succ, List.getElem?_cons_zero]; rfl) (by rfl) (by rfl) (fun K_ hK_ => ?_); have HK_ := Lib.hid hK_; clear hK_; go_wp2_with (first | (go_at_call 58; (with_reducible refine (HU16.out _ (HW1.out.trans (Below.mono (w := w1) (by exact blw) HW1.out.size))).mono ?_); rintro e wa ⟨rfl, hba⟩; have hac := bc hba; have haf := bf hba; have haz := hba.size; try simp only [World.size_alloc, World.size_drew] at haz) | (go_at_call 57; (with_reducible refine (HRP.out _).mono ?_); rintro e wb ⟨rfl, hbb⟩; have hbc := bc hbb; have hbf := bf hbb; have hbz := hbb.size; try simp only [World.size_alloc, World.size_drew] at hbz)); refine HK_.out _ _ (wld_ofA) ?_; clear HK_)
        (refine tree_run (by simp only [List.getElem?_toArray, List.getElem?_cons_succ, List.getElem?_cons_zero]; rfl) (by rfl) (by rfl) (fun K_ hK_ => ?_); have HK_ := Lib.hid hK_; clear hK_; go_wp2_with (first | (go_at_call 58; (with_reducible refine (HU16.out _ (HW1.out.trans (Below.mono (w := w1) (by exact blw) HW1.out.size))).mono ?_); rintro e wa ⟨rfl, hba⟩; have hac := bc hba; have haf := bf hba; have haz := hba.size; try simp only [World.size_alloc, World.size_drew] at haz) | (go_at_call 57; (with_reducible refine (HRP.out _).mono ?_); rintro e wb ⟨rfl, hbb⟩; have hbc := bc hbb; have hbf := bf hbb; have hbz := hbb.size; try simp only [World.size_alloc, World.size_drew] at hbz)); refine HK_.out _ _ (wld_ofA) ?_; clear HK_)
        refine tree_nil ?_
        refine leaf_any 6 [] (fun g6 V6 => Below w1.heap.size w1 V6 ∧ w1.heap.size ≤ g6 ∧ V6.heap[g6]? = some (.cells #[.slice (adv a c P) (n - P) (c - P)] 69 (0, 0))) _ (by rfl) (by first | (simp only [blank, List.setIfInBounds_toArray, List.set_cons_succ, List.set_cons_zero]; rfl) | simp only [blank, List.setIfInBounds_toArray, List.set_cons_succ, List.set_cons_zero]) (hfin_ ()) ?_
        (refine ⟨blw, ?_, ?_⟩ <;> first | omega | (simp only [World.size_setCell, World.size_alloc, World.size_drew]; omega) | (with_reducible exact set1_new (by assumption)) | (with_reducible exact set1_new (bthen (by assumption) (by assumption))) | (with_reducible exact set1_newd (by assumption)) | (with_reducible exact set1_newd (bthen (by assumption) (by assumption))) | (rw [heap_push, if_pos rfl]; done))
    · have HK_ := Lib.hid hK_; clear hK_; go_wp2_with (first | (go_at_call 58; (with_reducible refine (HU16.out _ (HW1.out.trans (Below.mono (w := w1) (by exact blw) HW1.out.size))).mono ?_); rintro e wa ⟨rfl, hba⟩; have hac := bc hba; have haf := bf hba; have haz := hba.size; try simp only [World.size_alloc, World.size_drew] at haz) | (go_at_call 57; (with_reducible refine (HRP.out _).mono ?_); rintro e wb ⟨rfl, hbb⟩; have hbc := bc hbb; have hbf := bf hbb; have hbz := hbb.size; try simp only [World.size_alloc, World.size_drew] at hbz)); refine HK_.out _ _ (wld_ofA) ?_; clear HK_
      (refine tree_run (by simp only [List.getElem?_toArray, List.getElem?_cons_succ, List.getElem?_cons_zero]; rfl) (by rfl) (by rfl) (fun K_ hK_ => ?_); have HK_ := Lib.hid hK_; clear hK_; go_wp2_with (first | (go_at_call 58; (with_reducible refine (HU16.out _ (HW1.out.trans (Below.mono (w := w1) (by exact blw) HW1.out.size))).mono ?_); rintro e wa ⟨rfl, hba⟩; have hac := bc hba; have haf := bf hba; have haz := hba.size; try simp only [World.size_alloc, World.size_drew] at haz) | (go_at_call 57; (with_reducible refine (HRP.out _).mono ?_); rintro e wb ⟨rfl, hbb⟩; have hbc := bc hbb; have hbf := bf hbb; have hbz := hbb.size; try simp only [World.size_alloc, World.size_drew] at hbz)); refine HK_.out _ _ (wld_ofA) ?_; clear HK_)
      (refine tree_run (by simp only [List.getElem?_toArray, List.getElem?_cons_succ, List.getElem?_cons_zero]; rfl) (by rfl) (by rfl) (fun K_ hK_ => ?_); have HK_ := Lib.hid hK_; clear hK_; go_wp2_with (first | (go_at_call 58; (with_reducible refine (HU16.out _ (HW1.out.trans (Below.mono (w := w1) (by exact blw) HW1.out.size))).mono ?_); rintro e wa ⟨rfl, hba⟩; have hac := bc hba; have haf := bf hba; have haz := hba.size; try simp only [World.size_alloc, World.size_drew] at haz) | (go_at_call 57; (with_reducible refine (HRP.out _).mono ?_); rintro e wb ⟨rfl, hbb⟩; have hbc := bc hbb; have hbf := bf hbb; have hbz := hbb.size; try simp only [World.size_alloc, World.size_drew] at hbz)); refine HK_.out _ _ (wld_ofA) ?_; clear HK_)
      (refine tree_run (by simp only [List.getElem?_toArray, List.getElem?_cons_succ, List.getElem?_cons_zero]; rfl) (by rfl) (by rfl) (fun K_ hK_ => ?_); have HK_ := Lib.hid hK_; clear hK_; go_wp2_with (first | (go_at_call 58; (with_reducible refine (HU16.out _ (HW1.out.trans (Below.mono (w := w1) (by exact blw) HW1.out.size))).mono ?_); rintro e wa ⟨rfl, hba⟩; have hac := bc hba; have haf := bf hba; have haz := hba.size; try simp only [World.size_alloc, World.size_drew] at haz) | (go_at_call 57; (with_reducible refine (HRP.out _).mono ?_); rintro e wb ⟨rfl, hbb⟩; have hbc := bc hbb; have hbf := bf hbb; have hbz := hbb.size; try simp only [World.size_alloc, World.size_drew] at hbz)); refine HK_.out _ _ (wld_ofA) ?_; clear HK_)
      refine tree_nil ?_
      refine leaf_any 6 [] (fun g6 V6 => Below w1.heap.size w1 V6 ∧ w1.heap.size ≤ g6 ∧ V6.heap[g6]? = some (.cells #[.slice (adv a c P) (n - P) (c - P)] 69 (0, 0))) _ (by rfl) (by first | (simp only [blank, List.setIfInBounds_toArray, List.set_cons_succ, List.set_cons_zero]; rfl) | simp only [blank, List.setIfInBounds_toArray, List.set_cons_succ, List.set_cons_zero]) (hfin_ ()) ?_
      (refine ⟨blw, ?_, ?_⟩ <;> first | omega | (simp only [World.size_setCell, World.size_alloc, World.size_drew]; omega) | (with_reducible exact set1_new (by assumption)) | (with_reducible exact set1_new (bthen (by assumption) (by assumption))) | (with_reducible exact set1_newd (by assumption)) | (with_reducible exact set1_newd (bthen (by assumption) (by assumption))) | (rw [heap_push, if_pos rfl]; done))
  intro g6 x6 V ⟨b6, hg6, h6⟩
  simp only [fill, List.setIfInBounds_toArray, List.set_cons_succ, List.set_cons_zero]
  have HBV := Lib.hid (HW1.out.trans (b6.mono HW1.out.size))
  have HMV := Lib.hid (HM1.out.below b6)
  have l6 := (Array.getElem?_eq_some_iff.1 h6).1
  have q6 := cell_of_heap h6 0
  simp only [List.getElem?_toArray, List.getElem?_cons_zero] at q6
  have hzV : w.heap.size + 1 ≤ V.heap.size := by have := b6.size; omega
  clear b6 h6 q2 hg2w
  go_wp2_with fail
  have HEN := Lib.hid (fun W (hW : Below V.heap.size V W) => entries_any _ g bs 2 rs S W (HMV.out.below hW))
  obtain ⟨N, hN⟩ : ∃ N, N = needE bs S := ⟨_, rfl⟩
  have hN6 := needE_le bs S
  rw [← hN] at HEN hN6
  have HN := Lib.hid hN
  have HAS := Lib.hid (fun (a : Option Addr) (c : Nat) W (h : Has W a (entsV (bs.drop (num bs 12 4)) 2 N)) => asked_any a N c bs W h hN6)
  obtain ⟨M, hM⟩ : ∃ M, M = cntC bs N := ⟨_, rfl⟩
  have hM6 := cntC_65 bs N
  rw [← hM] at HAS hM6
  have HM := Lib.hid hM
  clear hN hM
  have HCL := Lib.hid (fun W (hW : Below V.heap.size V W) => ctlist_any (adv a c P) (n - P) (c - P) (bs.drop P) glyphs M (glyphs : Nat) (M : Nat) rfl rfl W (by have := (HH.out.below (HBV.out.trans (hW.mono (Nat.le_trans (Nat.le_succ _) hzV)))).adv c P (by rw [bytesV_length, HL.out]; exact hnc); rwa [bytesV_drop] at this) (by rw [List.length_drop, HL.out]) (by omega) (Nat.le_trans (Nat.sub_le _ _) hc) hg1 hg2 hM6)
  by_cases hok : ∃ qs, ListOk (bs.drop P) glyphs M qs
  case neg =>
    have HNO := Lib.hid (show ∀ rs S qs, ¬ COk bs glyphs rs S qs from fun rs' S' qs ho => hok ⟨qs, by
      obtain ⟨rfl, rfl⟩ := ho.mok.det HMO.out
      have := list_of_cok ho
      rw [← HP.out, ← HN.out, ← HM.out] at this
      exact this⟩)
    have HCB := Lib.hid (fun W hW => (HCL.out W hW).mono (R' := fun e w' => e = .panicked thrown ∧ Below W.heap.size W w') (by
      rintro e w' ⟨(⟨qs, _, _, h, _⟩ | ⟨_, h⟩), hb⟩
      · exact absurd ⟨qs, h⟩ hok
      · exact ⟨h, hb⟩))
    clear hok
    refine wp_region_tree (.step 0 (.step 1 (.step 2 (.step 5 (.step 3 (.step 4 (.step 6 (.step 7 (.step 8 (.step 9 .nil)))))))))) (by kernel_rfl) (by kernel_rfl) (by kernel_rfl) (by kernel_rfl) (by intro _ _ d_ _ _ h_; cases d_ <;> first | exact h_ | (dsimp +zetaDelta only at h_ ⊢; exact h_)) (fun w' => ∃ p : Wld V [], w' = p.val) (wld_start _ _) ?_
    have hG_ := @wldC V
    (refine tree_quiet (by simp only [List.getElem?_toArray, List.getElem?_cons_succ, List.getElem?_cons_zero]; rfl) (by rfl) (by rfl) (fun K_ hK_ => ?_); go_big_quiet_op; refine hK_ _ ?_; clear hK_ K_)
    (refine tree_quiet (by simp only [List.getElem?_toArray, List.getElem?_cons_succ, List.getElem?_cons_zero]; rfl) (by rfl) (by rfl) (fun K_ hK_ => ?_); go_big_quiet_op; refine hK_ _ ?_; clear hK_ K_)
    (refine tree_quiet (by simp only [List.getElem?_toArray, List.getElem?_cons_succ, List.getElem?_cons_zero]; rfl) (by rfl) (by rfl) (fun K_ hK_ => ?_); go_big_quiet_op; refine hK_ _ ?_; clear hK_ K_)
    (refine tree_quiet (by simp only [List.getElem?_toArray, List.getElem?_cons_succ, List.getElem?_cons_zero]; rfl) (by rfl) (by rfl) (fun K_ hK_ => ?_); go_big_quiet_op; refine hK_ _ ?_; clear hK_ K_)
    (refine tree_run (by simp only [List.getElem?_toArray, List.getElem?_cons_succ, List.getElem?_cons_zero]; rfl) (by rfl) (by rfl) (fun K_ hK_ => ?_); have HK_ := Lib.hid hK_; clear hK_; go_wp2_with (first | (go_at_call 61; (with_reducible refine (HEN.out _ (by exact blw)).mono ?_); rintro e wa ⟨aE, cE, rfl, ho, _, _, _, hba⟩; have HHE := Lib.hid (has_of_owns ho); clear ho) | (go_at_call 60; (with_reducible refine (HAS.out _ _ _ (HHE.out.below (by exact blw))).mono ?_); rintro e wb ⟨rfl, hbb⟩) | (go_at_call 59; (with_reducible refine (HCB.out _ (by exact blw)).mono ?_); rintro e wd ⟨rfl, hbd⟩; have hdc := bc hbd; have hdf := bf hbd; have hdz := hbd.size; try simp only [World.size_alloc, World.size_drew] at hdz)); refine HK_.out _ _ (wld_ofA) ?_; clear HK_)
    (refine tree_run (by simp only [List.getElem?_toArray, List.getElem?_cons_succ, List.getElem?_cons_zero]; rfl) (by rfl) (by rfl) (fun K_ hK_ => ?_); have HK_ := Lib.hid hK_; clear hK_; go_wp2_with (first | (go_at_call 61; (with_reducible refine (HEN.out _ (by exact blw)).mono ?_); rintro e wa ⟨aE, cE, rfl, ho, _, _, _, hba⟩; have HHE := Lib.hid (has_of_owns ho); clear ho) | (go_at_call 60; (with_reducible refine (HAS.out _ _ _ (HHE.out.below (by exact blw))).mono ?_); rintro e wb ⟨rfl, hbb⟩) | (go_at_call 59; (with_reducible refine (HCB.out _ (by exact blw)).mono ?_); rintro e wd ⟨rfl, hbd⟩; have hdc := bc hbd; have hdf := bf hbd; have hdz := hbd.size; try simp only [World.size_alloc, World.size_drew] at hdz)); refine HK_.out _ _ (wld_ofA) ?_; clear HK_)
    (refine tree_run (by simp only [List.getElem?_toArray, List.getElem?_cons_succ, List.getElem?_cons_zero]; rfl) (by rfl) (by rfl) (fun K_ hK_ => ?_); have HK_ := Lib.hid hK_; clear hK_; go_wp2_with (first | (go_at_call 61; (with_reducible refine (HEN.out _ (by exact blw)).mono ?_); rintro e wa ⟨aE, cE, rfl, ho, _, _, _, hba⟩; have HHE := Lib.hid (has_of_owns ho); clear ho) | (go_at_call 60; (with_reducible refine (HAS.out _ _ _ (HHE.out.below (by exact blw))).mono ?_); rintro e wb ⟨rfl, hbb⟩) | (go_at_call 59; (with_reducible refine (HCB.out _ (by exact blw)).mono ?_); rintro e wd ⟨rfl, hbd⟩; have hdc := bc hbd; have hdf := bf hbd; have hdz := hbd.size; try simp only [World.size_alloc, World.size_drew] at hdz)); exact ⟨rfl, .inr ⟨HNO.out, rfl⟩, HBV.out.trans (Below.mono (w := V) (by exact blw) HBV.out.size)⟩)
  obtain ⟨qs, hok⟩ := hok
  have HCK := Lib.hid (show COk bs glyphs rs S qs from cok_of_list HMO.out (by rw [HL.out]; exact h20) (by rw [← HP.out, HL.out]; exact hfP) (by rw [← HP.out, ← HN.out, ← HM.out]; exact hok))
  have HCG := Lib.hid (fun W hW => (HCL.out W hW).mono (R' := fun e w' => ∃ ps go, e = .returned (.slice (some ⟨go, 0, none⟩) M M) ∧ w'.ownsRow W.heap.size 123 1 (.slice (some ⟨go, 0, none⟩) M M) M (ps.map fun g => ptrV (some g)) ∧ TabsAt W.heap.size (bs.drop P) qs ps w' ∧ Below W.heap.size W w') (by
    rintro e w' ⟨(⟨qs', ps, go, h1, h2, h3, h4⟩ | ⟨h, _⟩), hb⟩
    · have e1 : qs' = qs := List.ext_getElem (h1.len.trans hok.len.symm) fun i hi hj => (h1.each i _ (List.getElem?_eq_getElem hi)).2.det (hok.each i _ (List.getElem?_eq_getElem hj)).2
      subst e1
      exact ⟨ps, go, h2, h3, h4, hb⟩
    · exact absurd hok (h qs)))
  have HQL := Lib.hid (show qs.length = M from hok.len)
  clear hok HCL
  refine wp_region_tree (.step 0 (.step 1 (.step 2 (.step 5 (.step 3 (.step 4 (.step 6 (.step 7 (.step 8 (.step 9 .nil)))))))))) (by kernel_rfl) (by kernel_rfl) (by kernel_rfl) (by kernel_rfl) (by intro _ _ d_ _ _ h_; cases d_ <;> first | exact h_ | (dsimp +zetaDelta only at h_ ⊢; exact h_)) (fun w' => ∃ p : Wld V [], w' = p.val) (wld_start _ _) ?_
  have hG_ := @wldC V
  (refine tree_quiet (by simp only [List.getElem?_toArray, List.getElem?_cons_succ, List.getElem?_cons_zero]; rfl) (by rfl) (by rfl) (fun K_ hK_ => ?_); go_big_quiet_op; refine hK_ _ ?_; clear hK_ K_)
  (refine tree_quiet (by simp only [List.getElem?_toArray, List.getElem?_cons_succ, List.getElem?_cons_zero]; rfl) (by rfl) (by rfl) (fun K_ hK_ => ?_); go_big_quiet_op; refine hK_ _ ?_; clear hK_ K_)
  (refine tree_quiet (by simp only [List.getElem?_toArray, List.getElem?_cons_succ, List.getElem?_cons_zero]; rfl) (by rfl) (by rfl) (fun K_ hK_ => ?_); go_big_quiet_op; refine hK_ _ ?_; clear hK_ K_)
  (refine tree_quiet (by simp only [List.getElem?_toArray, List.getElem?_cons_succ, List.getElem?_cons_zero]; rfl) (by rfl) (by rfl) (fun K_ hK_ => ?_); go_big_quiet_op; refine hK_ _ ?_; clear hK_ K_)
  (refine tree_run (by simp only [List.getElem?_toArray, List.getElem?_cons_succ, List.getElem?_cons_zero]; rfl) (by rfl) (by rfl) (fun K_ hK_ => ?_); have HK_ := Lib.hid hK_; clear hK_; go_wp2_with (first | (go_at_call 61; (with_reducible refine (HEN.out _ (by exact blw)).mono ?_); rintro e wa ⟨aE, cE, rfl, ho, _, _, _, hba⟩; have HHE := Lib.hid (has_of_owns ho); clear ho) | (go_at_call 60; (with_reducible refine (HAS.out _ _ _ (HHE.out.below (by exact blw))).mono ?_); rintro e wb ⟨rfl, hbb⟩) | (go_at_call 59; (with_reducible refine (HCG.out _ (by exact blw)).mono ?_); rintro e wd ⟨ps, go, rfl, hown, htab, hbd⟩; have HOW := Lib.hid hown; have HTB := Lib.hid htab; clear hown htab)); refine HK_.out _ _ (wld_ofA) ?_; clear HK_)
  (refine tree_run (by simp only [List.getElem?_toArray, List.getElem?_cons_succ, List.getElem?_cons_zero]; rfl) (by rfl) (by rfl) (fun K_ hK_ => ?_); have HK_ := Lib.hid hK_; clear hK_; go_wp2_with (first | (go_at_call 61; (with_reducible refine (HEN.out _ (by exact blw)).mono ?_); rintro e wa ⟨aE, cE, rfl, ho, _, _, _, hba⟩; have HHE := Lib.hid (has_of_owns ho); clear ho) | (go_at_call 60; (with_reducible refine (HAS.out _ _ _ (HHE.out.below (by exact blw))).mono ?_); rintro e wb ⟨rfl, hbb⟩) | (go_at_call 59; (with_reducible refine (HCG.out _ (by exact blw)).mono ?_); rintro e wd ⟨ps, go, rfl, hown, htab, hbd⟩; have HOW := Lib.hid hown; have HTB := Lib.hid htab; clear hown htab)); refine HK_.out _ _ (wld_ofA) ?_; clear HK_)
  (refine tree_run (by simp only [List.getElem?_toArray, List.getElem?_cons_succ, List.getElem?_cons_zero]; rfl) (by rfl) (by rfl) (fun K_ hK_ => ?_); have HK_ := Lib.hid hK_; clear hK_; go_wp2_with (first | (go_at_call 61; (with_reducible refine (HEN.out _ (by exact blw)).mono ?_); rintro e wa ⟨aE, cE, rfl, ho, _, _, _, hba⟩; have HHE := Lib.hid (has_of_owns ho); clear ho) | (go_at_call 60; (with_reducible refine (HAS.out _ _ _ (HHE.out.below (by exact blw))).mono ?_); rintro e wb ⟨rfl, hbb⟩) | (go_at_call 59; (with_reducible refine (HCG.out _ (by exact blw)).mono ?_); rintro e wd ⟨ps, go, rfl, hown, htab, hbd⟩; have HOW := Lib.hid hown; have HTB := Lib.hid htab; clear hown htab)); refine HK_.out _ _ (wld_ofA) ?_; clear HK_)
  (refine tree_quiet (by simp only [List.getElem?_toArray, List.getElem?_cons_succ, List.getElem?_cons_zero]; rfl) (by rfl) (by rfl) (fun K_ hK_ => ?_); go_big_quiet_op; refine hK_ _ ?_; clear hK_ K_)
  (refine tree_run (by simp only [List.getElem?_toArray, List.getElem?_cons_succ, List.getElem?_cons_zero]; rfl) (by rfl) (by rfl) (fun K_ hK_ => ?_); have HK_ := Lib.hid hK_; clear hK_; go_wp2_with (first | (go_at_call 61; (with_reducible refine (HEN.out _ (by exact blw)).mono ?_); rintro e wa ⟨aE, cE, rfl, ho, _, _, _, hba⟩; have HHE := Lib.hid (has_of_owns ho); clear ho) | (go_at_call 60; (with_reducible refine (HAS.out _ _ _ (HHE.out.below (by exact blw))).mono ?_); rintro e wb ⟨rfl, hbb⟩) | (go_at_call 59; (with_reducible refine (HCG.out _ (by exact blw)).mono ?_); rintro e wd ⟨ps, go, rfl, hown, htab, hbd⟩; have HOW := Lib.hid hown; have HTB := Lib.hid htab; clear hown htab)); refine HK_.out _ _ (wld_ofA) ?_; clear HK_)
  (refine tree_quiet (by simp only [List.getElem?_toArray, List.getElem?_cons_succ, List.getElem?_cons_zero]; rfl) (by rfl) (by rfl) (fun K_ hK_ => ?_); go_big_quiet_op; refine hK_ _ ?_; clear hK_ K_)
  refine tree_nil ?_
  clear hG_
  have hb9 : Below V.heap.size V wd := (by exact blw)
  go_wp2_with fail
  go_ret
  have hbA : Below V.heap.size V (wd.alloc (Obj.cells #[Value.pointer (some ⟨g, 0, none⟩), .slice (some ⟨go, 0, none⟩) M M] 99)) := balloc hb9 _
  have hwV : w.heap.size ≤ V.heap.size := by omega
  have hwb : w.heap.size ≤ wb.heap.size := by have e1 : V.heap.size ≤ wa.heap.size := hba.size; have e2 := hbb.size; omega
  refine ⟨.inl ⟨rs, S, qs, _, HCK.out, rfl, ⟨g, go, ps, by rw [HQL.out, heap_push]; exact if_pos rfl, (HMV.out.below hbA).mono (by simp), by rw [HQL.out]; exact owns_mono (HOW.out.alloc _) hwb, HTB.out.len, fun i q g hi hp => ?_⟩, by have := hb9.size; omega⟩, HBV.out.trans (hbA.mono hwV)⟩
  obtain ⟨f, ht⟩ := HTB.out.each i q g hi hp
  refine ⟨f, ?_⟩
  rw [← vb_off, ← HP.out]
  exact (ht.below (balloc (brefl _) _)).monoM hwb
theorem ctake_ok (a : Option Addr) (n c : Nat) (bs : List UInt8) (glyphs : Nat) (rs : List RP) (S : Nat) (qs : List (List RP)) (w : World) (hh : Has w a (bytesV bs)) (hbl : bs.length = n) (hnc : n ≤ c) (hc : c ≤ maxLen) (hg1 : 1 ≤ glyphs) (hg2 : glyphs ≤ 65535) (hok : COk bs glyphs rs S qs) :
    Calls Try.prog 26 #[.agg #[.slice a n c], .int .i64 (glyphs : Nat)] w fun e w' => ∃ g, e = .returned (.pointer (some ⟨g, 0, none⟩)) ∧ CIs w.heap.size g bs rs S qs w' ∧ Below w.heap.size w w' := by
  refine (ctake_any a n c bs glyphs _ rfl w hh hbl hnc hc hg1 hg2).mono ?_
  rintro e w' ⟨(⟨rs', S', qs', g, hr, he, ht⟩ | ⟨hno, _⟩), hb⟩
  · obtain ⟨rfl, rfl, rfl⟩ := hok.det hr
    exact ⟨g, he, ht, hb⟩
  · exact absurd hok (hno rs S qs)
theorem ctake_bad (a : Option Addr) (n c : Nat) (bs : List UInt8) (glyphs : Nat) (w : World) (hh : Has w a (bytesV bs)) (hbl : bs.length = n) (hnc : n ≤ c) (hc : c ≤ maxLen) (hg1 : 1 ≤ glyphs) (hg2 : glyphs ≤ 65535) (hno : ∀ rs S qs, ¬ COk bs glyphs rs S qs) :
    Calls Try.prog 26 #[.agg #[.slice a n c], .int .i64 (glyphs : Nat)] w fun e w' => e = .panicked thrown ∧ Below w.heap.size w w' := by
  refine (ctake_any a n c bs glyphs _ rfl w hh hbl hnc hc hg1 hg2).mono ?_
  rintro e w' ⟨(⟨rs', S', qs', g, hr, _⟩ | ⟨_, he⟩), hb⟩
  · exact absurd hr (hno rs' S' qs')
  · exact ⟨he, hb⟩
end Go.Proofs.Ytcegoenlajkgfaa
end
section

/- The document's Begin, Next and Go: where a machine is on its way. Conditions: a machine in memory; sizes. -/
namespace Go.Proofs.Ytcegoenlajkgfaa
open Go.RowKit Go.Lib

end Go.Proofs.Ytcegoenlajkgfaa
end
section

/- The document's way of a machine, told of the machine along a line as a function; seven stores into one block. No condition. -/
namespace Go.Proofs.Ytcegoenlajkgfaa
open Go.RowKit Go.Lib

end Go.Proofs.Ytcegoenlajkgfaa
end
section

/- The document's Run of layer 15. Conditions: a machine and lookups in memory; sizes. -/
namespace Go.Proofs.Ytcegoenlajkgfaa
open Go.RowKit Go.Lib

/-- The glyphs, and the mark. -/
abbrev KX := List (Int × Int) × Int
def markC (l : List (Int × Int)) (m : Int) (z F : Nat) : Int := if F / 2 ^ 15 % 2 = 1 ∧ z < l.length then (z : Int) else m
def lineC (lk : Nat → Int → Nat × Bool) (l : List (Int × Int)) (m : Int) (z A Bw : Nat) : List (Int × Int) := swG lk (swG lk l m A) (z : Nat) Bw
def actC (lk : Nat → Int → Nat × Bool) (x : KX) (z : Nat) (e : Ent) : KX × Int × Int := ((lineC lk x.1 x.2 z e.2.2.1 e.2.2.2, markC (lineC lk x.1 x.2 z e.2.2.1 e.2.2.2) x.2 z e.2.1), (z : Int), (z : Int) + 1)
/-- What such a subtable does to a line. -/
def ctxD (bs : List UInt8) (rs : List RP) (lk : Nat → Int → Nat × Bool) (l : List (Int × Int)) : KX × Nat × Nat := runD (fun x z => clD bs rs x.1 z) (enM bs 2) (fun x z => decide (x.1.length ≤ z)) (actC lk) (2 * l.length + 128) (l, -1) 0 0 0 1
def IdsOk (l : List (Int × Int)) : Prop := ∀ p ∈ l, -9223372036854775808 ≤ p.1 ∧ p.1 ≤ 9223372036854775807
theorem swG_ids {lk : Nat → Int → Nat × Bool} (hlk : ∀ k id, (lk k id).1 ≤ 4294967295) {l : List (Int × Int)} (h : IdsOk l) (i : Int) (which : Nat) : IdsOk (swG lk l i which) := by
  unfold swG
  split
  · exact h
  split
  · rename_i hin
    split
    · rw [show setG l i ((lk which (atG l i).1).1 : Nat) = l.set i.toNat ((((lk which (atG l i).1).1 : Nat) : Int), (atG l i).2) from if_pos hin]
      intro p hp
      rcases List.mem_or_eq_of_mem_set hp with hp | rfl
      · exact h p hp
      · have := hlk which (atG l i).1
        show -9223372036854775808 ≤ ((lk which (atG l i).1).1 : Int) ∧ ((lk which (atG l i).1).1 : Int) ≤ 9223372036854775807
        omega
    · exact h
  · exact h
end Go.Proofs.Ytcegoenlajkgfaa
end
section

/- drive.Run, with an act made by Plain: a machine goes along a line, whatever the act does by its own contract. Conditions: a machine and a line in memory; the act keeps the machine, and what else is known; sizes. -/
namespace Go.Proofs.Ytcegoenlajkgfaa
open Go.RowKit Go.Lib

theorem fn_nilA (fn : Fn) (first cap : Array Value) (w : World) : (binOp .eql 101 (.func fn first cap) .nilFunc).run Try.prog w = .ok (.bool false) w := by kernel_rfl
set_option maxRecDepth 100000 in
set_option maxHeartbeats 3200000 in
theorem drunE_any {X : Type} (line : X → List (Int × Int)) (Inv : X → World → Prop) (act : X → Nat → Ent → X × Int × Int) (own : Nat → Nat → Prop) (K Bm g : Nat) (bs : List UInt8) (k glyphs : Nat) (rs : List RP) (S B Bl gl gx : Nat) (x0 : X) (w : World)
    (hM : MIs Bm g bs k rs S w) (hS : S ≤ 65536) (hok : MOk bs glyphs k rs S) (hg1 : 1 ≤ glyphs) (hfit : FitL (tabR (bs.drop (num bs 4 4)) rs).1 (tabR (bs.drop (num bs 4 4)) rs).2) (hown : notM own) (hB : B ≤ w.heap.size)
    (hI : Inv x0 w) (hIB : ∀ x W W', Inv x W → Below W.heap.size W W' → Inv x W') (hIL : ∀ x W, Inv x W → ∃ a c, GIs Bl gl a c (line x) W) (hIds : ∀ x W, Inv x W → ∀ p ∈ line x, -9223372036854775808 ≤ p.1 ∧ p.1 ≤ 9223372036854775807)
    (n : Nat) (hn : n = (line x0).length) (hn6 : n ≤ 1000000) (hK : K ≤ 100)
    (hbd : ∀ x z e, (act x z e).2.1 ≤ (z : Int) + K ∧ (act x z e).2.2 ≤ (z : Int) + K)
    (hact : ∀ x W z e, Inv x W → KeepC B own w W → z ≤ 900000000 → (∃ s c, s < S ∧ c < num bs 0 4 ∧ e = enM bs k s c) → e.1 ≤ 65535 → e.2.1 ≤ 65535 → e.2.2.1 ≤ 65535 → e.2.2.2 ≤ 65535 → Calls Try.prog 73 #[.int .i64 (z : Nat), entV4 e, .pointer (some ⟨gx, 0, none⟩)] W fun r W' => r = .returned (.tuple #[.int .i64 (act x z e).2.1, .int .i64 (act x z e).2.2]) ∧ Inv (act x z e).1 W' ∧ KeepC B own W W') :
    Calls Try.prog 45 #[.pointer (some ⟨g, 0, none⟩), .pointer (some ⟨gl, 0, none⟩), .func (.func 73) #[] #[.pointer (some ⟨gx, 0, none⟩)]] w fun e w' =>
      e = .returned (.tuple #[.int .i64 ((runD (fun x z => clD bs rs (line x) z) (enM bs k) (fun x z => decide ((line x).length ≤ z)) act (2 * n + 128) x0 0 0 0 1).2.1 : Nat), .int .i64 ((runD (fun x z => clD bs rs (line x) z) (enM bs k) (fun x z => decide ((line x).length ≤ z)) act (2 * n + 128) x0 0 0 0 1).2.2 : Nat)]) ∧ Inv (runD (fun x z => clD bs rs (line x) z) (enM bs k) (fun x z => decide ((line x).length ≤ z)) act (2 * n + 128) x0 0 0 0 1).1 w' ∧ KeepC B own w w' := by
  have hAC := allocC
  have hAF := allocF
  have hN := fn_nilA
  obtain ⟨R, hR⟩ : ∃ R, R = runD (fun x z => clD bs rs (line x) z) (enM bs k) (fun x z => decide ((line x).length ≤ z)) act (2 * n + 128) x0 0 0 0 1 := ⟨_, rfl⟩
  rw [← hR]
  obtain ⟨a0, c0, hG0⟩ := hIL x0 w hI
  have hln := glen_any Bl gl a0 c0 (line x0) w hG0
  rw [← hn] at hln
  have HLN := Lib.hid hln
  have HM := Lib.hid hM
  have HCA := Lib.hid (fun W x z (hk : KeepC B own w W) (hx : Inv x W) (hz : z ≤ 1000000000) => by
    obtain ⟨a, c, hG⟩ := hIL x W hx
    exact classAt_z Bm g bs k rs S Bl gl a c (line x) z hz W (hM.keepO hk hown) hfit hG (hIds x W hx))
  have HST := Lib.hid (fun W (hk : KeepC B own w W) s c (hs : s < S) (hc : c < num bs 0 4) => step_yes Bm g bs k rs S s c W (hM.keepO hk hown) hS hs hc)
  have HACT := Lib.hid hact
  have HCL := Lib.hid (fun x z => clD_lt bs rs (line x) z hok.cls.1)
  have HNX := Lib.hid (fun s c (hs : s < S) (hc : c < num bs 0 4) => enM_next bs k hok hs hc)
  have HIB := Lib.hid hIB
  have HI := Lib.hid hI
  have HR := Lib.hid hR
  have HBD := Lib.hid hbd
  have HOWN := Lib.hid hown
  have hS2 : 0 < S := by have := hok.least.closed.1; omega
  have hK2 : K * (2 * n + 129) ≤ 100 * (2 * n + 129) := Nat.mul_le_mul_right _ hK
  clear hM hok hfit hown hI hIB hIL hIds hn hact hG0 hln hR hbd
  go_enter Try.func45, Try.ntmps45
  go_wp2_with (go_at_call 23; (with_reducible refine HLN.out.mono ?_); rintro e w_ ⟨rfl, rfl⟩)
  go_loopw [9, 10, 11, 12] (fun now at' rests steps wr => ∃ (fu : Nat) (x : X) (s z re st : Nat), now = .int .i64 (s : Nat) ∧ at' = .int .i64 (z : Nat) ∧ rests = .int .i64 (re : Nat) ∧ steps = .int .i64 (st : Nat) ∧ s < S ∧ z ≤ K * st ∧ re ≤ 64 ∧ st + fu = 2 * n + 129 ∧ Inv x wr ∧ KeepC B own w wr ∧ runD (fun x z => clD bs rs (line x) z) (enM bs k) (fun x z => decide ((line x).length ≤ z)) act fu x s z re st = R) (fun _ _ _ steps _ => 2 * n + 129 - (Go.RowKit.intOf steps).toNat)
  case atStart => exact ⟨2 * n + 128, x0, 0, 0, 0, 1, rfl, rfl, rfl, rfl, hS2, Nat.zero_le _, Nat.zero_le _, by omega, HI.out, KeepC.refl _ _ _, HR.out.symm⟩
  case round =>
    obtain ⟨fu, x, s, z, re, st, rfl, rfl, rfl, rfl, hs, hz, hre, hst, hx, hk, hrun⟩ := hrel
    rename World => wr
    have HX := Lib.hid hx
    have HK := Lib.hid hk
    have HRUN := Lib.hid hrun
    clear hx hk hrun
    by_cases hfu : fu = 0
    · have hst2 : st = 2 * n + 129 := by omega
      have d1 : decide ((st : Int) ≤ 2 * (n : Int) + 128) = false := by simp; omega
      have hrun := HRUN.out
      rw [hfu, runD] at hrun
      have HRUN := Lib.hid hrun
      clear hfu hrun
      go_wp2_with fail
      go_ret2
      rw [← HRUN.out]
      refine ⟨?_, HX.out, HK.out⟩
      show Ending.returned (.tuple #[.int .i64 (2 * (n : Int) + 128), .int .i64 4]) = Ending.returned (.tuple #[.int .i64 ((st - 1 : Nat) : Int), .int .i64 ((4 : Nat) : Int)])
      rw [show ((st - 1 : Nat) : Int) = 2 * (n : Int) + 128 by omega]
      rfl
    · obtain ⟨f, rfl⟩ : ∃ f, fu = f + 1 := ⟨fu - 1, by omega⟩
      have d1 : decide ((st : Int) ≤ 2 * (n : Int) + 128) = true := by simp; omega
      have hzb : z ≤ 900000000 := by
        have : K * st ≤ K * (2 * n + 129) := Nat.mul_le_mul_left _ (by omega)
        omega
      have hrun := HRUN.out
      have hBD := HBD.out x z (enM bs k s (clD bs rs (line x) z))
      have hC := HCL.out x z
      have hca := HCA.out wr x z HK.out HX.out (by omega)
      have hnx := HNX.out s (clD bs rs (line x) z) hs hC
      have hstp := fun W (hW : KeepC B own w W) => show Calls Try.prog 72 #[.pointer (some ⟨g, 0, none⟩), .int .i64 (s : Nat), .int .i64 (clD bs rs (line x) z : Nat)] W fun e w' => e = .returned (.tuple #[entV4 (enM bs k s (clD bs rs (line x) z)), .bool true]) ∧ Below W.heap.size W w' from HST.out W hW s (clD bs rs (line x) z) hs hC
      have hle : (enM bs k s (clD bs rs (line x) z)).1 ≤ 65535 ∧ (enM bs k s (clD bs rs (line x) z)).2.1 ≤ 65535 ∧ (enM bs k s (clD bs rs (line x) z)).2.2.1 ≤ 65535 ∧ (enM bs k s (clD bs rs (line x) z)).2.2.2 ≤ 65535 := entX_le _ _ _
      rw [runD] at hrun
      (try simp only at hrun)
      generalize he : enM bs k s (clD bs rs (line x) z) = E at *
      generalize clD bs rs (line x) z = C at *
      obtain ⟨e0, e1, e2, e3⟩ := E
      (try simp only at hle hnx hrun)
      have hac := fun W (hi : Inv x W) (hk : KeepC B own w W) => HACT.out x W z (e0, e1, e2, e3) hi hk hzb ⟨s, C, hs, hC, he.symm⟩ hle.1 hle.2.1 hle.2.2.1 hle.2.2.2
      generalize act x z (e0, e1, e2, e3) = r at hrun hac hBD
      obtain ⟨x1, y1, y2⟩ := r
      (try simp only at hrun hac hBD)
      simp only [entV4] at hac hstp
      obtain ⟨wi, hwi⟩ : ∃ wi, decide (z < (line x).length) = wi := ⟨_, rfl⟩
      rw [hwi] at hca
      have HWI := Lib.hid hwi
      have HC1 := Lib.hid hca
      have HS1 := Lib.hid hstp
      have HA1 := Lib.hid hac
      have hzs : z + K ≤ K * (st + 1) := by rw [Nat.mul_succ]; omega
      obtain ⟨p1, hp1⟩ : ∃ p : Nat, max y1 0 = p := ⟨(max y1 0).toNat, by omega⟩
      obtain ⟨p2, hp2⟩ : ∃ p : Nat, max y2 0 = p := ⟨(max y2 0).toNat, by omega⟩
      rw [hp1, hp2, Int.toNat_natCast, Int.toNat_natCast] at hrun
      have hq1 : p1 ≤ z + K := by omega
      have hq2 : p2 ≤ z + K := by omega
      have HRN := Lib.hid hrun
      have hle1 := hle.2.1
      have hBr := Nat.le_trans hB HK.out.size
      clear hwi he hca hstp hac hrun hle hBD hC HRUN
      by_cases hA : e1 / 2 ^ 14 % 2 = 1
      · have hbt : bits .and .i64 (e1 : Int) 16384 = 16384 := flag_yes e1 14 hle1 (by decide) 16384 rfl hA
        have hrn := HRN.out
        rw [if_pos hA] at hrn
        by_cases h64 : 64 < re + 1
        · have d2 : decide ((64 : Int) < (re : Int) + 1) = true := by simp; omega
          rw [if_pos h64] at hrn
          have HRN := Lib.hid hrn
          clear hrn hA
          go_wp2_with (first
            | (go_at_call 71; (with_reducible refine HC1.out.mono ?_); rintro e w1 ⟨rfl, hb1⟩; have HK1 := Lib.hid (HK.out.trans (KeepC.of (own := own) hb1 hBr)); have HX1 := Lib.hid (HIB.out _ _ _ HX.out hb1); clear hb1)
            | (go_at_call 72; (with_reducible refine (HS1.out _ HK1.out).mono ?_); rintro e w2 ⟨rfl, hb2⟩; have hBw := Nat.le_trans hB HK1.out.size; have hb2' : Below w1.heap.size w1 (w2.alloc (Obj.cells #[.int .i64 (e0 : Nat), .int .i64 (e1 : Nat), .int .i64 (e2 : Nat), .int .i64 (e3 : Nat)] 60)) := balloc hb2 _; have HK2 := Lib.hid (HK1.out.trans (KeepC.of (own := own) hb2' hBw)); have HX2 := Lib.hid (HIB.out _ _ _ HX1.out hb2'); clear hb2 hb2' hBw)
            | (go_at_call 73; (with_reducible refine (HA1.out _ HX2.out HK2.out).mono ?_); rintro e w3 ⟨rfl, hx3, hk3⟩; have h14 := (hk3.kept w2.heap.size _ _ _ (heap_push _ _ _ |>.trans (if_pos rfl)) (HOWN.out.2.2.1 _)).trans (heap_push _ _ _ |>.trans (if_pos rfl)); have q0 := cell_of_heap h14 0; have q1 := cell_of_heap h14 1; simp only [List.getElem?_toArray, List.getElem?_cons_succ, List.getElem?_cons_zero] at q0 q1; have HX3 := Lib.hid hx3; have HK3 := Lib.hid (HK2.out.trans hk3); clear hx3 hk3 h14))
          go_ret2
          rw [← HRN.out]
          exact ⟨rfl, HX3.out, HK3.out⟩
        · have d2 : decide ((64 : Int) < (re : Int) + 1) = false := by simp; omega
          rw [if_neg h64] at hrn
          have HRN := Lib.hid hrn
          clear hrn hA
          go_wp2_with (first
            | (go_at_call 71; (with_reducible refine HC1.out.mono ?_); rintro e w1 ⟨rfl, hb1⟩; have HK1 := Lib.hid (HK.out.trans (KeepC.of (own := own) hb1 hBr)); have HX1 := Lib.hid (HIB.out _ _ _ HX.out hb1); clear hb1)
            | (go_at_call 72; (with_reducible refine (HS1.out _ HK1.out).mono ?_); rintro e w2 ⟨rfl, hb2⟩; have hBw := Nat.le_trans hB HK1.out.size; have hb2' : Below w1.heap.size w1 (w2.alloc (Obj.cells #[.int .i64 (e0 : Nat), .int .i64 (e1 : Nat), .int .i64 (e2 : Nat), .int .i64 (e3 : Nat)] 60)) := balloc hb2 _; have HK2 := Lib.hid (HK1.out.trans (KeepC.of (own := own) hb2' hBw)); have HX2 := Lib.hid (HIB.out _ _ _ HX1.out hb2'); clear hb2 hb2' hBw)
            | (go_at_call 73; (with_reducible refine (HA1.out _ HX2.out HK2.out).mono ?_); rintro e w3 ⟨rfl, hx3, hk3⟩; have h14 := (hk3.kept w2.heap.size _ _ _ (heap_push _ _ _ |>.trans (if_pos rfl)) (HOWN.out.2.2.1 _)).trans (heap_push _ _ _ |>.trans (if_pos rfl)); have q0 := cell_of_heap h14 0; have q1 := cell_of_heap h14 1; simp only [List.getElem?_toArray, List.getElem?_cons_succ, List.getElem?_cons_zero] at q0 q1; have HX3 := Lib.hid hx3; have HK3 := Lib.hid (HK2.out.trans hk3); clear hx3 hk3 h14))
          go_roundw
          case rel => exact ⟨f, x1, e0, p1, re + 1, st + 1, rfl, by first | (congr 1; split <;> omega) | congr 1, by go_num, by go_num, hnx, by omega, by omega, by omega, HX3.out, HK3.out, HRN.out⟩
          case measure => simp only [RowKit.intOf]; omega
      · have hbt : bits .and .i64 (e1 : Int) 16384 = 0 := flag_no e1 14 hle1 (by decide) 16384 rfl hA
        have hrn := HRN.out
        rw [if_neg hA] at hrn
        by_cases hC0 : (line x).length ≤ z
        · obtain rfl : wi = false := by rw [← HWI.out]; simp; omega
          rw [if_pos (by simp; omega)] at hrn
          have HRN := Lib.hid hrn
          clear hrn hA hC0
          go_wp2_with (first
            | (go_at_call 71; (with_reducible refine HC1.out.mono ?_); rintro e w1 ⟨rfl, hb1⟩; have HK1 := Lib.hid (HK.out.trans (KeepC.of (own := own) hb1 hBr)); have HX1 := Lib.hid (HIB.out _ _ _ HX.out hb1); clear hb1)
            | (go_at_call 72; (with_reducible refine (HS1.out _ HK1.out).mono ?_); rintro e w2 ⟨rfl, hb2⟩; have hBw := Nat.le_trans hB HK1.out.size; have hb2' : Below w1.heap.size w1 (w2.alloc (Obj.cells #[.int .i64 (e0 : Nat), .int .i64 (e1 : Nat), .int .i64 (e2 : Nat), .int .i64 (e3 : Nat)] 60)) := balloc hb2 _; have HK2 := Lib.hid (HK1.out.trans (KeepC.of (own := own) hb2' hBw)); have HX2 := Lib.hid (HIB.out _ _ _ HX1.out hb2'); clear hb2 hb2' hBw)
            | (go_at_call 73; (with_reducible refine (HA1.out _ HX2.out HK2.out).mono ?_); rintro e w3 ⟨rfl, hx3, hk3⟩; have h14 := (hk3.kept w2.heap.size _ _ _ (heap_push _ _ _ |>.trans (if_pos rfl)) (HOWN.out.2.2.1 _)).trans (heap_push _ _ _ |>.trans (if_pos rfl)); have q0 := cell_of_heap h14 0; have q1 := cell_of_heap h14 1; simp only [List.getElem?_toArray, List.getElem?_cons_succ, List.getElem?_cons_zero] at q0 q1; have HX3 := Lib.hid hx3; have HK3 := Lib.hid (HK2.out.trans hk3); clear hx3 hk3 h14))
          go_ret2
          rw [← HRN.out]
          exact ⟨rfl, HX3.out, HK3.out⟩
        · obtain rfl : wi = true := by rw [← HWI.out]; simp; omega
          rw [if_neg (by simp; omega)] at hrn
          have HRN := Lib.hid hrn
          clear hrn hA hC0
          go_wp2_with (first
            | (go_at_call 71; (with_reducible refine HC1.out.mono ?_); rintro e w1 ⟨rfl, hb1⟩; have HK1 := Lib.hid (HK.out.trans (KeepC.of (own := own) hb1 hBr)); have HX1 := Lib.hid (HIB.out _ _ _ HX.out hb1); clear hb1)
            | (go_at_call 72; (with_reducible refine (HS1.out _ HK1.out).mono ?_); rintro e w2 ⟨rfl, hb2⟩; have hBw := Nat.le_trans hB HK1.out.size; have hb2' : Below w1.heap.size w1 (w2.alloc (Obj.cells #[.int .i64 (e0 : Nat), .int .i64 (e1 : Nat), .int .i64 (e2 : Nat), .int .i64 (e3 : Nat)] 60)) := balloc hb2 _; have HK2 := Lib.hid (HK1.out.trans (KeepC.of (own := own) hb2' hBw)); have HX2 := Lib.hid (HIB.out _ _ _ HX1.out hb2'); clear hb2 hb2' hBw)
            | (go_at_call 73; (with_reducible refine (HA1.out _ HX2.out HK2.out).mono ?_); rintro e w3 ⟨rfl, hx3, hk3⟩; have h14 := (hk3.kept w2.heap.size _ _ _ (heap_push _ _ _ |>.trans (if_pos rfl)) (HOWN.out.2.2.1 _)).trans (heap_push _ _ _ |>.trans (if_pos rfl)); have q0 := cell_of_heap h14 0; have q1 := cell_of_heap h14 1; simp only [List.getElem?_toArray, List.getElem?_cons_succ, List.getElem?_cons_zero] at q0 q1; have HX3 := Lib.hid hx3; have HK3 := Lib.hid (HK2.out.trans hk3); clear hx3 hk3 h14))
          go_roundw
          case rel => exact ⟨f, x1, e0, p2, 0, st + 1, rfl, by first | (congr 1; split <;> omega) | congr 1, rfl, by go_num, hnx, by omega, by omega, by omega, HX3.out, HK3.out, HRN.out⟩
          case measure => simp only [RowKit.intOf]; omega
end Go.Proofs.Ytcegoenlajkgfaa
end
