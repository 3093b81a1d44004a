/- Joined from: CTake XRun XRead DRef. -/
import Derived.Test.YtcegoenlajkgfaaJ18
import Derived.Test.YtcegoenlajkgfaaJ17
import Derived.Test.YtcegoenlajkgfaaJ08
import Derived.Test.YtcegoenlajkgfaaJ16
section

/- ctx.Take: such a subtable that a View begins with, or it throws. Conditions: as many bytes as the slice says. -/
namespace Go.Proofs.Ytcegoenlajkgfaa
open Go.RowKit Go.Lib

theorem vb_off (bs : List UInt8) (i : Nat) : (bs.drop (num bs 16 4)).drop (num (bs.drop (num bs 16 4)) (4 * i) 4) = bs.drop (offC bs i) := by
  rw [num_dropS, List.drop_drop]
  rfl
theorem list_of_cok {bs : List UInt8} {glyphs : Nat} {rs : List RP} {S : Nat} {qs : List (List RP)} (h : COk bs glyphs rs S qs) : ListOk (bs.drop (num bs 16 4)) glyphs (cntC bs (needE bs S)) qs := by
  have hat := h.at_
  refine ⟨?_, h.len, fun i q hq => ?_⟩
  · rw [List.length_drop]
    rcases Nat.eq_zero_or_pos (cntC bs (needE bs S)) with h0 | h0
    · omega
    · obtain ⟨q, hq⟩ : ∃ q, qs[cntC bs (needE bs S) - 1]? = some q := ⟨_, List.getElem?_eq_getElem (by rw [h.len]; omega)⟩
      have := (h.each _ _ hq).at_
      omega
  · have hk := h.each i q hq
    have ho := hk.off
    refine ⟨?_, by rw [vb_off]; exact hk.ok⟩
    rw [num_dropS, List.length_drop]
    unfold offC at ho
    omega
theorem cok_of_list {bs : List UInt8} {glyphs : Nat} {rs : List RP} {S : Nat} {qs : List (List RP)} (hm : MOk bs glyphs 2 rs S) (h20 : 20 ≤ bs.length) (hat : num bs 16 4 ≤ bs.length) (h : ListOk (bs.drop (num bs 16 4)) glyphs (cntC bs (needE bs S)) qs) : COk bs glyphs rs S qs := by
  refine ⟨hm, h20, hat, h.len, fun i q hq => ?_⟩
  have hlt := (List.getElem?_eq_some_iff.1 hq).1
  have hl := h.at_
  obtain ⟨h1, h2⟩ := h.each i q hq
  rw [List.length_drop] at hl h1
  rw [num_dropS] at h1
  rw [vb_off] at h2
  rw [h.len] at hlt
  refine ⟨by omega, ?_, h2⟩
  unfold offC
  omega
/-- Such a subtable in memory. -/
structure CIs (B gt : Nat) (bs : List UInt8) (rs : List RP) (S : Nat) (qs : List (List RP)) (w : World) : Prop where
  is : ∃ (g go : Nat) (ps : List Nat), w.heap[gt]? = some (.cells #[.pointer (some ⟨g, 0, none⟩), .slice (some ⟨go, 0, none⟩) qs.length qs.length] 99 (0, 0)) ∧ MIs B g bs 2 rs S w ∧
    w.ownsRow B 123 1 (.slice (some ⟨go, 0, none⟩) qs.length qs.length) qs.length (ps.map fun g => ptrV (some g)) ∧ ps.length = qs.length ∧ ∀ i q g, qs[i]? = some q → ps[i]? = some g → ∃ fmt, TabIs B g fmt (tabR (bs.drop (offC bs i)) q).1 (tabR (bs.drop (offC bs i)) q).2 w
  ge : B ≤ gt
theorem CIs.below {B gt : Nat} {bs : List UInt8} {rs : List RP} {S : Nat} {qs : List (List RP)} {w w' : World} (h : CIs B gt bs rs S qs w) (hb : Below w.heap.size w w') : CIs B gt bs rs S qs w' := by
  obtain ⟨g, go, ps, h1, h2, h3, h4, h5⟩ := h.is
  exact ⟨⟨g, go, ps, (hb.block gt (Array.getElem?_eq_some_iff.1 h1).1).trans h1, h2.below hb, owns_below h3 hb (Nat.le_refl _), h4, fun i q g hi hp => by obtain ⟨f, h⟩ := h5 i q g hi hp; exact ⟨f, h.below hb⟩⟩, h.ge⟩
theorem CIs.mono {B B' gt : Nat} {bs : List UInt8} {rs : List RP} {S : Nat} {qs : List (List RP)} {w : World} (h : CIs B gt bs rs S qs w) (hB : B' ≤ B) : CIs B' gt bs rs S qs w := by
  obtain ⟨g, go, ps, h1, h2, h3, h4, h5⟩ := h.is
  exact ⟨⟨g, go, ps, h1, h2.mono hB, owns_mono h3 hB, h4, fun i q g hi hp => by obtain ⟨f, h⟩ := h5 i q g hi hp; exact ⟨f, h.monoM hB⟩⟩, Nat.le_trans hB h.ge⟩
def CTkIs (bs : List UInt8) (glyphs : Nat) (w : World) (e : Ending) (w' : World) : Prop :=
  ((∃ rs S qs gt, COk bs glyphs rs S qs ∧ e = .returned (.pointer (some ⟨gt, 0, none⟩)) ∧ CIs w.heap.size gt bs rs S qs w') ∨ ((∀ rs S qs, ¬ COk bs glyphs rs S qs) ∧ e = .panicked thrown)) ∧ Below w.heap.size w w'
theorem set1_new {w0 w1 : World} {x0 v0 : Value} {t : TypeId} (h : Below (w0.alloc (.cells #[x0] t)).heap.size (w0.alloc (.cells #[x0] t)) w1) : (w1.setCell ⟨w0.heap.size, 0, none⟩ v0).heap[w0.heap.size]? = some (.cells #[v0] t (0, 0)) := by
  have h1 : w1.heap[w0.heap.size]? = some (.cells #[x0] t (0, 0)) := (h.block w0.heap.size (by simp)).trans (by rw [heap_push, if_pos rfl])
  simp [World.setCell, Array.getElem?_modify, h1]
theorem set1_newd {w0 w1 : World} {x0 v0 : Value} {t : TypeId} (h : Below (w0.alloc (.cells #[x0] t)).drew.heap.size (w0.alloc (.cells #[x0] t)).drew w1) : (w1.setCell ⟨w0.heap.size, 0, none⟩ v0).heap[w0.heap.size]? = some (.cells #[v0] t (0, 0)) := set1_new ((Below.refl _ _).drew.trans h)
set_option maxRecDepth 100000 in
set_option maxHeartbeats 6400000 in
theorem ctake_any (a : Option Addr) (n c : Nat) (bs : List UInt8) (glyphs : Nat) (zg : Int) (hzg : zg = (glyphs : Nat)) (w : World) (hh : Has w a (bytesV bs)) (hbl : bs.length = n) (hnc : n ≤ c) (hc : c ≤ maxLen) (hg1 : 1 ≤ glyphs) (hg2 : glyphs ≤ 65535) :
    Calls Try.prog 26 #[.agg #[.slice a n c], .int .i64 zg] w (CTkIs bs glyphs w) := by
  have hAC := allocC
  have hAF := allocF
  subst hzg
  have HH := Lib.hid hh
  have HL := Lib.hid hbl
  have HUB := Lib.hid (fun (z : Int) (hz : ¬ (0 ≤ z ∧ z + 4 ≤ (n : Int))) W => u32_bad a n c z W hz hnc hc)
  have HU := Lib.hid (fun (j : Nat) (z : Int) (hz : z = (j : Nat)) (W : World) (hW : Below w.heap.size w W) (hj : j + 4 ≤ n) => u32_z a n c j z hz bs W (hh.below hW) hbl hj hnc hc)
  have HRS := Lib.hid (fun (j : Nat) (hj : j ≤ n) W => rest_ok a n c j W hj hnc hc)
  have HRB := Lib.hid (fun (j : Nat) (hj : n < j) W => rest_bad a n c (j : Nat) W (.inr (by omega)))
  clear hh hbl
  by_cases hmo : ∃ rs S, MOk bs glyphs 2 rs S
  case neg =>
    have HNO := Lib.hid (show ∀ rs S qs, ¬ COk bs glyphs rs S qs from fun rs S qs ho => hmo ⟨rs, S, ho.mok⟩)
    have HTB := Lib.hid (fun W (hW : Below w.heap.size w W) => show Calls Try.prog 56 #[.agg #[.slice a n c], .int .i64 (glyphs : Nat), .int .i64 2] W fun e w' => e = .panicked thrown ∧ Below W.heap.size W w' from mtake_bad a n c bs glyphs 2 W (HH.out.below hW) HL.out hnc hc hg1 hg2 (by decide) (fun rs S h => hmo ⟨rs, S, h⟩))
    clear hmo
    go_enter Try.func26, Try.ntmps26
    go_wp2_with (first | (go_at_call 56; (with_reducible refine (HTB.out _ (by exact blw)).mono ?_); rintro e w1 ⟨rfl, hb1⟩; have h1c := bc hb1; have h1f := bf hb1; have h1z := hb1.size; try simp only [World.size_alloc, World.size_drew] at h1z))
    exact ⟨rfl, .inr ⟨HNO.out, rfl⟩, blw⟩
  obtain ⟨rs, S, hmo⟩ := hmo
  have HMO := Lib.hid hmo
  have HTM := Lib.hid (fun W (hW : Below w.heap.size w W) => show Calls Try.prog 56 #[.agg #[.slice a n c], .int .i64 (glyphs : Nat), .int .i64 2] W fun e w' => ∃ g, e = .returned (.pointer (some ⟨g, 0, none⟩)) ∧ MIs W.heap.size g bs 2 rs S w' ∧ Below W.heap.size W w' from mtake_ok a n c bs glyphs 2 rs S W (HH.out.below hW) HL.out hnc hc hg1 hg2 (by decide) hmo)
  clear hmo
  go_enter Try.func26, Try.ntmps26
  go_wp2_with (first | (go_at_call 56; (with_reducible refine (HTM.out _ (by exact blw)).mono ?_); rintro e w1 ⟨g, rfl, hM, hb1⟩; have HM1 := Lib.hid hM; have HW1 := Lib.hid (show Below w.heap.size w w1 from by exact blw); have h1z := hb1.size; have c2 := (hb1.block w.heap.size (by simp)).trans (show (w.alloc (.cells #[.slice a n c] 69)).heap[w.heap.size]? = some (.cells #[.slice a n c] 69 (0, 0)) from by rw [heap_push, if_pos rfl]); simp only [World.size_alloc] at h1z; clear hM hb1))
  have Z2 := Lib.hid c2
  have q2 := cell_of_heap c2 0
  simp only [List.getElem?_toArray, List.getElem?_cons_zero] at q2
  have hg2w : w.heap.size < w1.heap.size := by omega
  clear c2 HTM
  by_cases h20 : 20 ≤ n
  case neg =>
    have HNO := Lib.hid (show ∀ rs S qs, ¬ COk bs glyphs rs S qs from fun rs S qs ho => h20 (by have := ho.l20; rw [HL.out] at this; exact this))
    have HB1 := Lib.hid (HUB.out 16 (by omega))
    refine wp_region_tree (.step 0 (.step 1 (.two 2 (.two 3 (.step 4 (.step 5 .nil)) 4 (.step 3 (.step 5 .nil))) 4 (.step 2 (.step 3 (.step 5 .nil)))))) (by kernel_rfl) (by kernel_rfl) (by kernel_rfl) (by kernel_rfl) (by intro _ _ d_ _ _ h_; cases d_ <;> first | exact h_ | (dsimp +zetaDelta only at h_ ⊢; exact h_)) (fun w' => ∃ p : Wld w1 [], w' = p.val) (wld_start _ _) ?_
    have hG_ := @wldC w1
    (refine tree_quiet (by simp only [List.getElem?_toArray, List.getElem?_cons_succ, List.getElem?_cons_zero]; rfl) (by rfl) (by rfl) (fun K_ hK_ => ?_); go_big_quiet_op; refine hK_ _ ?_; clear hK_ K_)
    (refine tree_quiet (by simp only [List.getElem?_toArray, List.getElem?_cons_succ, List.getElem?_cons_zero]; rfl) (by rfl) (by rfl) (fun K_ hK_ => ?_); go_big_quiet_op; refine hK_ _ ?_; clear hK_ K_)
    refine tree_two (by simp only [List.getElem?_toArray, List.getElem?_cons_succ, List.getElem?_cons_zero]; rfl) (by simp only [List.getElem?_toArray, List.getElem?_cons_succ, List.getElem?_cons_zero]; rfl) (by rfl) (by rfl) (fun K_ hK_ => ?_) (fun K_ hK_ => ?_)
    · have HK_ := Lib.hid hK_; clear hK_; go_wp2_with ((go_at_call 58; (with_reducible refine (HB1.out _).mono ?_); rintro e wa ⟨rfl, hba⟩; have hac := bc hba; have haf := bf hba; have haz := hba.size; try simp only [World.size_alloc, World.size_drew] at haz)); exact ⟨rfl, .inr ⟨HNO.out, rfl⟩, HW1.out.trans (Below.mono (w := w1) (by exact blw) HW1.out.size)⟩
    · have HK_ := Lib.hid hK_; clear hK_; go_wp2_with ((go_at_call 58; (with_reducible refine (HB1.out _).mono ?_); rintro e wa ⟨rfl, hba⟩; have hac := bc hba; have haf := bf hba; have haz := hba.size; try simp only [World.size_alloc, World.size_drew] at haz)); refine HK_.out _ _ (wld_ofA) ?_; clear HK_
      (refine tree_run (by simp only [List.getElem?_toArray, List.getElem?_cons_succ, List.getElem?_cons_zero]; rfl) (by rfl) (by rfl) (fun K_ hK_ => ?_); have HK_ := Lib.hid hK_; clear hK_; go_wp2_with ((go_at_call 58; (with_reducible refine (HB1.out _).mono ?_); rintro e wa ⟨rfl, hba⟩; have hac := bc hba; have haf := bf hba; have haz := hba.size; try simp only [World.size_alloc, World.size_drew] at haz)); exact ⟨rfl, .inr ⟨HNO.out, rfl⟩, HW1.out.trans (Below.mono (w := w1) (by exact blw) HW1.out.size)⟩)
  have HU16 := Lib.hid (fun W hW => HU.out 16 16 rfl W hW h20)
  have hP16 := num4_lt bs 16
  obtain ⟨P, hP⟩ : ∃ P, P = num bs 16 4 := ⟨_, rfl⟩
  rw [← hP] at HU16 hP16
  have HP := Lib.hid hP
  clear hP
  by_cases hfP : P ≤ n
  case neg =>
    have HNO := Lib.hid (show ∀ rs S qs, ¬ COk bs glyphs rs S qs from fun rs S qs ho => hfP (by have := ho.at_; rw [HL.out, ← HP.out] at this; exact this))
    have HB1 := Lib.hid (HRB.out P (by omega))
    refine wp_region_tree (.step 0 (.step 1 (.two 2 (.two 3 (.step 4 (.step 5 .nil)) 4 (.step 3 (.step 5 .nil))) 4 (.step 2 (.step 3 (.step 5 .nil)))))) (by kernel_rfl) (by kernel_rfl) (by kernel_rfl) (by kernel_rfl) (by intro _ _ d_ _ _ h_; cases d_ <;> first | exact h_ | (dsimp +zetaDelta only at h_ ⊢; exact h_)) (fun w' => ∃ p : Wld w1 [], w' = p.val) (wld_start _ _) ?_
    have hG_ := @wldC w1
    (refine tree_quiet (by simp only [List.getElem?_toArray, List.getElem?_cons_succ, List.getElem?_cons_zero]; rfl) (by rfl) (by rfl) (fun K_ hK_ => ?_); go_big_quiet_op; refine hK_ _ ?_; clear hK_ K_)
    (refine tree_quiet (by simp only [List.getElem?_toArray, List.getElem?_cons_succ, List.getElem?_cons_zero]; rfl) (by rfl) (by rfl) (fun K_ hK_ => ?_); go_big_quiet_op; refine hK_ _ ?_; clear hK_ K_)
    refine tree_two (by simp only [List.getElem?_toArray, List.getElem?_cons_succ, List.getElem?_cons_zero]; rfl) (by simp only [List.getElem?_toArray, List.getElem?_cons_succ, List.getElem?_cons_zero]; rfl) (by rfl) (by rfl) (fun K_ hK_ => ?_) (fun K_ hK_ => ?_)
    · have HK_ := Lib.hid hK_; clear hK_; go_wp2_with (first | (go_at_call 58; (with_reducible refine (HU16.out _ (HW1.out.trans (Below.mono (w := w1) (by exact blw) HW1.out.size))).mono ?_); rintro e wa ⟨rfl, hba⟩; have hac := bc hba; have haf := bf hba; have haz := hba.size; try simp only [World.size_alloc, World.size_drew] at haz) | (go_at_call 57; (with_reducible refine (HB1.out _).mono ?_); rintro e wb ⟨rfl, hbb⟩; have hbc := bc hbb; have hbf := bf hbb; have hbz := hbb.size; try simp only [World.size_alloc, World.size_drew] at hbz)); refine HK_.out _ _ (wld_ofA) ?_; clear HK_
      refine tree_two (by simp only [List.getElem?_toArray, List.getElem?_cons_succ, List.getElem?_cons_zero]; rfl) (by simp only [List.getElem?_toArray, List.getElem?_cons_succ, List.getElem?_cons_zero]; rfl) (by rfl) (by rfl) (fun K_ hK_ => ?_) (fun K_ hK_ => ?_)
      · have HK_ := Lib.hid hK_; clear hK_; go_wp2_with (first | (go_at_call 58; (with_reducible refine (HU16.out _ (HW1.out.trans (Below.mono (w := w1) (by exact blw) HW1.out.size))).mono ?_); rintro e wa ⟨rfl, hba⟩; have hac := bc hba; have haf := bf hba; have haz := hba.size; try simp only [World.size_alloc, World.size_drew] at haz) | (go_at_call 57; (with_reducible refine (HB1.out _).mono ?_); rintro e wb ⟨rfl, hbb⟩; have hbc := bc hbb; have hbf := bf hbb; have hbz := hbb.size; try simp only [World.size_alloc, World.size_drew] at hbz)); exact ⟨rfl, .inr ⟨HNO.out, rfl⟩, HW1.out.trans (Below.mono (w := w1) (by exact blw) HW1.out.size)⟩
      · have HK_ := Lib.hid hK_; clear hK_; go_wp2_with (first | (go_at_call 58; (with_reducible refine (HU16.out _ (HW1.out.trans (Below.mono (w := w1) (by exact blw) HW1.out.size))).mono ?_); rintro e wa ⟨rfl, hba⟩; have hac := bc hba; have haf := bf hba; have haz := hba.size; try simp only [World.size_alloc, World.size_drew] at haz) | (go_at_call 57; (with_reducible refine (HB1.out _).mono ?_); rintro e wb ⟨rfl, hbb⟩; have hbc := bc hbb; have hbf := bf hbb; have hbz := hbb.size; try simp only [World.size_alloc, World.size_drew] at hbz)); refine HK_.out _ _ (wld_ofA) ?_; clear HK_
        (refine tree_run (by simp only [List.getElem?_toArray, List.getElem?_cons_succ, List.getElem?_cons_zero]; rfl) (by rfl) (by rfl) (fun K_ hK_ => ?_); have HK_ := Lib.hid hK_; clear hK_; go_wp2_with (first | (go_at_call 58; (with_reducible refine (HU16.out _ (HW1.out.trans (Below.mono (w := w1) (by exact blw) HW1.out.size))).mono ?_); rintro e wa ⟨rfl, hba⟩; have hac := bc hba; have haf := bf hba; have haz := hba.size; try simp only [World.size_alloc, World.size_drew] at haz) | (go_at_call 57; (with_reducible refine (HB1.out _).mono ?_); rintro e wb ⟨rfl, hbb⟩; have hbc := bc hbb; have hbf := bf hbb; have hbz := hbb.size; try simp only [World.size_alloc, World.size_drew] at hbz)); exact ⟨rfl, .inr ⟨HNO.out, rfl⟩, HW1.out.trans (Below.mono (w := w1) (by exact blw) HW1.out.size)⟩)
    · have HK_ := Lib.hid hK_; clear hK_; go_wp2_with (first | (go_at_call 58; (with_reducible refine (HU16.out _ (HW1.out.trans (Below.mono (w := w1) (by exact blw) HW1.out.size))).mono ?_); rintro e wa ⟨rfl, hba⟩; have hac := bc hba; have haf := bf hba; have haz := hba.size; try simp only [World.size_alloc, World.size_drew] at haz) | (go_at_call 57; (with_reducible refine (HB1.out _).mono ?_); rintro e wb ⟨rfl, hbb⟩; have hbc := bc hbb; have hbf := bf hbb; have hbz := hbb.size; try simp only [World.size_alloc, World.size_drew] at hbz)); refine HK_.out _ _ (wld_ofA) ?_; clear HK_
      (refine tree_run (by simp only [List.getElem?_toArray, List.getElem?_cons_succ, List.getElem?_cons_zero]; rfl) (by rfl) (by rfl) (fun K_ hK_ => ?_); have HK_ := Lib.hid hK_; clear hK_; go_wp2_with (first | (go_at_call 58; (with_reducible refine (HU16.out _ (HW1.out.trans (Below.mono (w := w1) (by exact blw) HW1.out.size))).mono ?_); rintro e wa ⟨rfl, hba⟩; have hac := bc hba; have haf := bf hba; have haz := hba.size; try simp only [World.size_alloc, World.size_drew] at haz) | (go_at_call 57; (with_reducible refine (HB1.out _).mono ?_); rintro e wb ⟨rfl, hbb⟩; have hbc := bc hbb; have hbf := bf hbb; have hbz := hbb.size; try simp only [World.size_alloc, World.size_drew] at hbz)); refine HK_.out _ _ (wld_ofA) ?_; clear HK_)
      (refine tree_run (by simp only [List.getElem?_toArray, List.getElem?_cons_succ, List.getElem?_cons_zero]; rfl) (by rfl) (by rfl) (fun K_ hK_ => ?_); have HK_ := Lib.hid hK_; clear hK_; go_wp2_with (first | (go_at_call 58; (with_reducible refine (HU16.out _ (HW1.out.trans (Below.mono (w := w1) (by exact blw) HW1.out.size))).mono ?_); rintro e wa ⟨rfl, hba⟩; have hac := bc hba; have haf := bf hba; have haz := hba.size; try simp only [World.size_alloc, World.size_drew] at haz) | (go_at_call 57; (with_reducible refine (HB1.out _).mono ?_); rintro e wb ⟨rfl, hbb⟩; have hbc := bc hbb; have hbf := bf hbb; have hbz := hbb.size; try simp only [World.size_alloc, World.size_drew] at hbz)); exact ⟨rfl, .inr ⟨HNO.out, rfl⟩, HW1.out.trans (Below.mono (w := w1) (by exact blw) HW1.out.size)⟩)
  have HRP := Lib.hid (HRS.out P hfP)
  apply cutP (R := ∀ (g_ : Nat) (x_ : Nat → Value) (W_ : World), (fun g6 V6 => Below w1.heap.size w1 V6 ∧ w1.heap.size ≤ g6 ∧ V6.heap[g6]? = some (.cells #[.slice (adv a c P) (n - P) (c - P)] 69 (0, 0))) g_ W_ → _)
  · intro hfin_
    refine wp_region_tree (.step 0 (.step 1 (.two 2 (.two 3 (.step 4 (.step 5 .nil)) 4 (.step 3 (.step 5 .nil))) 4 (.step 2 (.step 3 (.step 5 .nil)))))) (by kernel_rfl) (by kernel_rfl) (by kernel_rfl) (by kernel_rfl) (by intro _ _ d_ _ _ h_; cases d_ <;> first | exact h_ | (dsimp +zetaDelta only at h_ ⊢; exact h_)) (fun w' => ∃ p : Wld w1 [], w' = p.val) (wld_start _ _) ?_
    have hG_ := @wldC w1
    (refine tree_quiet (by simp only [List.getElem?_toArray, List.getElem?_cons_succ, List.getElem?_cons_zero]; rfl) (by rfl) (by rfl) (fun K_ hK_ => ?_); go_big_quiet_op; refine hK_ _ ?_; clear hK_ K_)
    (refine tree_quiet (by simp only [List.getElem?_toArray, List.getElem?_cons_succ, List.getElem?_cons_zero]; rfl) (by rfl) (by rfl) (fun K_ hK_ => ?_); go_big_quiet_op; refine hK_ _ ?_; clear hK_ K_)
    refine tree_two (by simp only [List.getElem?_toArray, List.getElem?_cons_succ, List.getElem?_cons_zero]; rfl) (by simp only [List.getElem?_toArray, List.getElem?_cons_succ, List.getElem?_cons_zero]; rfl) (by rfl) (by rfl) (fun K_ hK_ => ?_) (fun K_ hK_ => ?_)
    · have HK_ := Lib.hid hK_; clear hK_; go_wp2_with (first | (go_at_call 58; (with_reducible refine (HU16.out _ (HW1.out.trans (Below.mono (w := w1) (by exact blw) HW1.out.size))).mono ?_); rintro e wa ⟨rfl, hba⟩; have hac := bc hba; have haf := bf hba; have haz := hba.size; try simp only [World.size_alloc, World.size_drew] at haz) | (go_at_call 57; (with_reducible refine (HRP.out _).mono ?_); rintro e wb ⟨rfl, hbb⟩; have hbc := bc hbb; have hbf := bf hbb; have hbz := hbb.size; try simp only [World.size_alloc, World.size_drew] at hbz)); refine HK_.out _ _ (wld_ofA) ?_; clear HK_
      refine tree_two (by simp only [List.getElem?_toArray, List.getElem?_cons_succ, List.getElem?_cons_zero]; rfl) (by simp only [List.getElem?_toArray, List.getElem?_cons_succ, List.getElem?_cons_zero]; rfl) (by rfl) (by rfl) (fun K_ hK_ => ?_) (fun K_ hK_ => ?_)
      · have HK_ := Lib.hid hK_; clear hK_; go_wp2_with (first | (go_at_call 58; (with_reducible refine (HU16.out _ (HW1.out.trans (Below.mono (w := w1) (by exact blw) HW1.out.size))).mono ?_); rintro e wa ⟨rfl, hba⟩; have hac := bc hba; have haf := bf hba; have haz := hba.size; try simp only [World.size_alloc, World.size_drew] at haz) | (go_at_call 57; (with_reducible refine (HRP.out _).mono ?_); rintro e wb ⟨rfl, hbb⟩; have hbc := bc hbb; have hbf := bf hbb; have hbz := hbb.size; try simp only [World.size_alloc, World.size_drew] at hbz)); refine HK_.out _ _ (wld_ofA) ?_; clear HK_
        (refine tree_run (by simp only [List.getElem?_toArray, List.getElem?_cons_succ, List.getElem?_cons_zero]; rfl) (by rfl) (by rfl) (fun K_ hK_ => ?_); have HK_ := Lib.hid hK_; clear hK_; go_wp2_with (first | (go_at_call 58; (with_reducible refine (HU16.out _ (HW1.out.trans (Below.mono (w := w1) (by exact blw) HW1.out.size))).mono ?_); rintro e wa ⟨rfl, hba⟩; have hac := bc hba; have haf := bf hba; have haz := hba.size; try simp only [World.size_alloc, World.size_drew] at haz) | (go_at_call 57; (with_reducible refine (HRP.out _).mono ?_); rintro e wb ⟨rfl, hbb⟩; have hbc := bc hbb; have hbf := bf hbb; have hbz := hbb.size; try simp only [World.size_alloc, World.size_drew] at hbz)); refine HK_.out _ _ (wld_ofA) ?_; clear HK_)
        (refine tree_run (by simp only [List.getElem?_toArray, List.getElem?_cons_succ, List.getElem?_cons_zero]; rfl) (by rfl) (by rfl) (fun K_ hK_ => ?_); have HK_ := Lib.hid hK_; clear hK_; go_wp2_with (first | (go_at_call 58; (with_reducible refine (HU16.out _ (HW1.out.trans (Below.mono (w := w1) (by exact blw) HW1.out.size))).mono ?_); rintro e wa ⟨rfl, hba⟩; have hac := bc hba; have haf := bf hba; have haz := hba.size; try simp only [World.size_alloc, World.size_drew] at haz) | (go_at_call 57; (with_reducible refine (HRP.out _).mono ?_); rintro e wb ⟨rfl, hbb⟩; have hbc := bc hbb; have hbf := bf hbb; have hbz := hbb.size; try simp only [World.size_alloc, World.size_drew] at hbz)); refine HK_.out _ _ (wld_ofA) ?_; clear HK_)
        refine tree_nil ?_
        refine leaf_any 6 [] (fun g6 V6 => Below w1.heap.size w1 V6 ∧ w1.heap.size ≤ g6 ∧ V6.heap[g6]? = some (.cells #[.slice (adv a c P) (n - P) (c - P)] 69 (0, 0))) _ (by rfl) (by first | (simp only [blank, List.setIfInBounds_toArray, List.set_cons_succ, List.set_cons_zero]; rfl) | simp only [blank, List.setIfInBounds_toArray, List.set_cons_succ, List.set_cons_zero]) (hfin_ ()) ?_
        (refine ⟨blw, ?_, ?_⟩ <;> first | omega | (simp only [World.size_setCell, World.size_alloc, World.size_drew]; omega) | (with_reducible exact set1_new (by assumption)) | (with_reducible exact set1_new (bthen (by assumption) (by assumption))) | (with_reducible exact set1_newd (by assumption)) | (with_reducible exact set1_newd (bthen (by assumption) (by assumption))) | (rw [heap_push, if_pos rfl]; done))
      · have HK_ := Lib.hid hK_; clear hK_; go_wp2_with (first | (go_at_call 58; (with_reducible refine (HU16.out _ (HW1.out.trans (Below.mono (w := w1) (by exact blw) HW1.out.size))).mono ?_); rintro e wa ⟨rfl, hba⟩; have hac := bc hba; have haf := bf hba; have haz := hba.size; try simp only [World.size_alloc, World.size_drew] at haz) | (go_at_call 57; (with_reducible refine (HRP.out _).mono ?_); rintro e wb ⟨rfl, hbb⟩; have hbc := bc hbb; have hbf := bf hbb; have hbz := hbb.size; try simp only [World.size_alloc, World.size_drew] at hbz)); refine HK_.out _ _ (wld_ofA) ?_; clear HK_
        (refine tree_run (by simp only [List.getElem?_toArray, List.getElem?_cons_succ, List.getElem?_cons_zero]; rfl) (by rfl) (by rfl) (fun K_ hK_ => ?_); have HK_ := Lib.hid hK_; clear hK_; go_wp2_with (first | (go_at_call 58; (with_reducible refine (HU16.out _ (HW1.out.trans (Below.mono (w := w1) (by exact blw) HW1.out.size))).mono ?_); rintro e wa ⟨rfl, hba⟩; have hac := bc hba; have haf := bf hba; have haz := hba.size; try simp only [World.size_alloc, World.size_drew] at haz) | (go_at_call 57; (with_reducible refine (HRP.out _).mono ?_); rintro e wb ⟨rfl, hbb⟩; have hbc := bc hbb; have hbf := bf hbb; have hbz := hbb.size; try simp only [World.size_alloc, World.size_drew] at hbz)); refine HK_.out _ _ (wld_ofA) ?_; clear HK_)
        (refine tree_run (by simp only [List.getElem?_toArray, List.getElem?_cons_succ, List.getElem?_cons_zero]; rfl) (by rfl) (by rfl) (fun K_ hK_ => ?_); have HK_ := Lib.hid hK_; clear hK_; go_wp2_with (first | (go_at_call 58; (with_reducible refine (HU16.out _ (HW1.out.trans (Below.mono (w := w1) (by exact blw) HW1.out.size))).mono ?_); rintro e wa ⟨rfl, hba⟩; have hac := bc hba; have haf := bf hba; have haz := hba.size; try simp only [World.size_alloc, World.size_drew] at haz) | (go_at_call 57; (with_reducible refine (HRP.out _).mono ?_); rintro e wb ⟨rfl, hbb⟩; have hbc := bc hbb; have hbf := bf hbb; have hbz := hbb.size; try simp only [World.size_alloc, World.size_drew] at hbz)); refine HK_.out _ _ (wld_ofA) ?_; clear HK_)
        refine tree_nil ?_
        refine leaf_any 6 [] (fun g6 V6 => Below w1.heap.size w1 V6 ∧ w1.heap.size ≤ g6 ∧ V6.heap[g6]? = some (.cells #[.slice (adv a c P) (n - P) (c - P)] 69 (0, 0))) _ (by rfl) (by first | (simp only [blank, List.setIfInBounds_toArray, List.set_cons_succ, List.set_cons_zero]; rfl) | simp only [blank, List.setIfInBounds_toArray, List.set_cons_succ, List.set_cons_zero]) (hfin_ ()) ?_
        (refine ⟨blw, ?_, ?_⟩ <;> first | omega | (simp only [World.size_setCell, World.size_alloc, World.size_drew]; omega) | (with_reducible exact set1_new (by assumption)) | (with_reducible exact set1_new (bthen (by assumption) (by assumption))) | (with_reducible exact set1_newd (by assumption)) | (with_reducible exact set1_newd (bthen (by assumption) (by assumption))) | (rw [heap_push, if_pos rfl]; done))
    · have HK_ := Lib.hid hK_; clear hK_; go_wp2_with (first | (go_at_call 58; (with_reducible refine (HU16.out _ (HW1.out.trans (Below.mono (w := w1) (by exact blw) HW1.out.size))).mono ?_); rintro e wa ⟨rfl, hba⟩; have hac := bc hba; have haf := bf hba; have haz := hba.size; try simp only [World.size_alloc, World.size_drew] at haz) | (go_at_call 57; (with_reducible refine (HRP.out _).mono ?_); rintro e wb ⟨rfl, hbb⟩; have hbc := bc hbb; have hbf := bf hbb; have hbz := hbb.size; try simp only [World.size_alloc, World.size_drew] at hbz)); refine HK_.out _ _ (wld_ofA) ?_; clear HK_
      (refine tree_run (by simp only [List.getElem?_toArray, List.getElem?_cons_succ, List.getElem?_cons_zero]; rfl) (by rfl) (by rfl) (fun K_ hK_ => ?_); have HK_ := Lib.hid hK_; clear hK_; go_wp2_with (first | (go_at_call 58; (with_reducible refine (HU16.out _ (HW1.out.trans (Below.mono (w := w1) (by exact blw) HW1.out.size))).mono ?_); rintro e wa ⟨rfl, hba⟩; have hac := bc hba; have haf := bf hba; have haz := hba.size; try simp only [World.size_alloc, World.size_drew] at haz) | (go_at_call 57; (with_reducible refine (HRP.out _).mono ?_); rintro e wb ⟨rfl, hbb⟩; have hbc := bc hbb; have hbf := bf hbb; have hbz := hbb.size; try simp only [World.size_alloc, World.size_drew] at hbz)); refine HK_.out _ _ (wld_ofA) ?_; clear HK_)
      (refine tree_run (by simp only [List.getElem?_toArray, List.getElem?_cons_succ, List.getElem?_cons_zero]; rfl) (by rfl) (by rfl) (fun K_ hK_ => ?_); have HK_ := Lib.hid hK_; clear hK_; go_wp2_with (first | (go_at_call 58; (with_reducible refine (HU16.out _ (HW1.out.trans (Below.mono (w := w1) (by exact blw) HW1.out.size))).mono ?_); rintro e wa ⟨rfl, hba⟩; have hac := bc hba; have haf := bf hba; have haz := hba.size; try simp only [World.size_alloc, World.size_drew] at haz) | (go_at_call 57; (with_reducible refine (HRP.out _).mono ?_); rintro e wb ⟨rfl, hbb⟩; have hbc := bc hbb; have hbf := bf hbb; have hbz := hbb.size; try simp only [World.size_alloc, World.size_drew] at hbz)); refine HK_.out _ _ (wld_ofA) ?_; clear HK_)
      (refine tree_run (by simp only [List.getElem?_toArray, List.getElem?_cons_succ, List.getElem?_cons_zero]; rfl) (by rfl) (by rfl) (fun K_ hK_ => ?_); have HK_ := Lib.hid hK_; clear hK_; go_wp2_with (first | (go_at_call 58; (with_reducible refine (HU16.out _ (HW1.out.trans (Below.mono (w := w1) (by exact blw) HW1.out.size))).mono ?_); rintro e wa ⟨rfl, hba⟩; have hac := bc hba; have haf := bf hba; have haz := hba.size; try simp only [World.size_alloc, World.size_drew] at haz) | (go_at_call 57; (with_reducible refine (HRP.out _).mono ?_); rintro e wb ⟨rfl, hbb⟩; have hbc := bc hbb; have hbf := bf hbb; have hbz := hbb.size; try simp only [World.size_alloc, World.size_drew] at hbz)); refine HK_.out _ _ (wld_ofA) ?_; clear HK_)
      refine tree_nil ?_
      refine leaf_any 6 [] (fun g6 V6 => Below w1.heap.size w1 V6 ∧ w1.heap.size ≤ g6 ∧ V6.heap[g6]? = some (.cells #[.slice (adv a c P) (n - P) (c - P)] 69 (0, 0))) _ (by rfl) (by first | (simp only [blank, List.setIfInBounds_toArray, List.set_cons_succ, List.set_cons_zero]; rfl) | simp only [blank, List.setIfInBounds_toArray, List.set_cons_succ, List.set_cons_zero]) (hfin_ ()) ?_
      (refine ⟨blw, ?_, ?_⟩ <;> first | omega | (simp only [World.size_setCell, World.size_alloc, World.size_drew]; omega) | (with_reducible exact set1_new (by assumption)) | (with_reducible exact set1_new (bthen (by assumption) (by assumption))) | (with_reducible exact set1_newd (by assumption)) | (with_reducible exact set1_newd (bthen (by assumption) (by assumption))) | (rw [heap_push, if_pos rfl]; done))
  intro g6 x6 V ⟨b6, hg6, h6⟩
  simp only [fill, List.setIfInBounds_toArray, List.set_cons_succ, List.set_cons_zero]
  have HBV := Lib.hid (HW1.out.trans (b6.mono HW1.out.size))
  have HMV := Lib.hid (HM1.out.below b6)
  have l6 := (Array.getElem?_eq_some_iff.1 h6).1
  have q6 := cell_of_heap h6 0
  simp only [List.getElem?_toArray, List.getElem?_cons_zero] at q6
  have hzV : w.heap.size + 1 ≤ V.heap.size := by have := b6.size; omega
  clear b6 h6 q2 hg2w
  go_wp2_with fail
  have HEN := Lib.hid (fun W (hW : Below V.heap.size V W) => entries_any _ g bs 2 rs S W (HMV.out.below hW))
  obtain ⟨N, hN⟩ : ∃ N, N = needE bs S := ⟨_, rfl⟩
  have hN6 := needE_le bs S
  rw [← hN] at HEN hN6
  have HN := Lib.hid hN
  have HAS := Lib.hid (fun (a : Option Addr) (c : Nat) W (h : Has W a (entsV (bs.drop (num bs 12 4)) 2 N)) => asked_any a N c bs W h hN6)
  obtain ⟨M, hM⟩ : ∃ M, M = cntC bs N := ⟨_, rfl⟩
  have hM6 := cntC_65 bs N
  rw [← hM] at HAS hM6
  have HM := Lib.hid hM
  clear hN hM
  have HCL := Lib.hid (fun W (hW : Below V.heap.size V W) => ctlist_any (adv a c P) (n - P) (c - P) (bs.drop P) glyphs M (glyphs : Nat) (M : Nat) rfl rfl W (by have := (HH.out.below (HBV.out.trans (hW.mono (Nat.le_trans (Nat.le_succ _) hzV)))).adv c P (by rw [bytesV_length, HL.out]; exact hnc); rwa [bytesV_drop] at this) (by rw [List.length_drop, HL.out]) (by omega) (Nat.le_trans (Nat.sub_le _ _) hc) hg1 hg2 hM6)
  by_cases hok : ∃ qs, ListOk (bs.drop P) glyphs M qs
  case neg =>
    have HNO := Lib.hid (show ∀ rs S qs, ¬ COk bs glyphs rs S qs from fun rs' S' qs ho => hok ⟨qs, by
      obtain ⟨rfl, rfl⟩ := ho.mok.det HMO.out
      have := list_of_cok ho
      rw [← HP.out, ← HN.out, ← HM.out] at this
      exact this⟩)
    have HCB := Lib.hid (fun W hW => (HCL.out W hW).mono (R' := fun e w' => e = .panicked thrown ∧ Below W.heap.size W w') (by
      rintro e w' ⟨(⟨qs, _, _, h, _⟩ | ⟨_, h⟩), hb⟩
      · exact absurd ⟨qs, h⟩ hok
      · exact ⟨h, hb⟩))
    clear hok
    refine wp_region_tree (.step 0 (.step 1 (.step 2 (.step 5 (.step 3 (.step 4 (.step 6 (.step 7 (.step 8 (.step 9 .nil)))))))))) (by kernel_rfl) (by kernel_rfl) (by kernel_rfl) (by kernel_rfl) (by intro _ _ d_ _ _ h_; cases d_ <;> first | exact h_ | (dsimp +zetaDelta only at h_ ⊢; exact h_)) (fun w' => ∃ p : Wld V [], w' = p.val) (wld_start _ _) ?_
    have hG_ := @wldC V
    (refine tree_quiet (by simp only [List.getElem?_toArray, List.getElem?_cons_succ, List.getElem?_cons_zero]; rfl) (by rfl) (by rfl) (fun K_ hK_ => ?_); go_big_quiet_op; refine hK_ _ ?_; clear hK_ K_)
    (refine tree_quiet (by simp only [List.getElem?_toArray, List.getElem?_cons_succ, List.getElem?_cons_zero]; rfl) (by rfl) (by rfl) (fun K_ hK_ => ?_); go_big_quiet_op; refine hK_ _ ?_; clear hK_ K_)
    (refine tree_quiet (by simp only [List.getElem?_toArray, List.getElem?_cons_succ, List.getElem?_cons_zero]; rfl) (by rfl) (by rfl) (fun K_ hK_ => ?_); go_big_quiet_op; refine hK_ _ ?_; clear hK_ K_)
    (refine tree_quiet (by simp only [List.getElem?_toArray, List.getElem?_cons_succ, List.getElem?_cons_zero]; rfl) (by rfl) (by rfl) (fun K_ hK_ => ?_); go_big_quiet_op; refine hK_ _ ?_; clear hK_ K_)
    (refine tree_run (by simp only [List.getElem?_toArray, List.getElem?_cons_succ, List.getElem?_cons_zero]; rfl) (by rfl) (by rfl) (fun K_ hK_ => ?_); have HK_ := Lib.hid hK_; clear hK_; go_wp2_with (first | (go_at_call 61; (with_reducible refine (HEN.out _ (by exact blw)).mono ?_); rintro e wa ⟨aE, cE, rfl, ho, _, _, _, hba⟩; have HHE := Lib.hid (has_of_owns ho); clear ho) | (go_at_call 60; (with_reducible refine (HAS.out _ _ _ (HHE.out.below (by exact blw))).mono ?_); rintro e wb ⟨rfl, hbb⟩) | (go_at_call 59; (with_reducible refine (HCB.out _ (by exact blw)).mono ?_); rintro e wd ⟨rfl, hbd⟩; have hdc := bc hbd; have hdf := bf hbd; have hdz := hbd.size; try simp only [World.size_alloc, World.size_drew] at hdz)); refine HK_.out _ _ (wld_ofA) ?_; clear HK_)
    (refine tree_run (by simp only [List.getElem?_toArray, List.getElem?_cons_succ, List.getElem?_cons_zero]; rfl) (by rfl) (by rfl) (fun K_ hK_ => ?_); have HK_ := Lib.hid hK_; clear hK_; go_wp2_with (first | (go_at_call 61; (with_reducible refine (HEN.out _ (by exact blw)).mono ?_); rintro e wa ⟨aE, cE, rfl, ho, _, _, _, hba⟩; have HHE := Lib.hid (has_of_owns ho); clear ho) | (go_at_call 60; (with_reducible refine (HAS.out _ _ _ (HHE.out.below (by exact blw))).mono ?_); rintro e wb ⟨rfl, hbb⟩) | (go_at_call 59; (with_reducible refine (HCB.out _ (by exact blw)).mono ?_); rintro e wd ⟨rfl, hbd⟩; have hdc := bc hbd; have hdf := bf hbd; have hdz := hbd.size; try simp only [World.size_alloc, World.size_drew] at hdz)); refine HK_.out _ _ (wld_ofA) ?_; clear HK_)
    (refine tree_run (by simp only [List.getElem?_toArray, List.getElem?_cons_succ, List.getElem?_cons_zero]; rfl) (by rfl) (by rfl) (fun K_ hK_ => ?_); have HK_ := Lib.hid hK_; clear hK_; go_wp2_with (first | (go_at_call 61; (with_reducible refine (HEN.out _ (by exact blw)).mono ?_); rintro e wa ⟨aE, cE, rfl, ho, _, _, _, hba⟩; have HHE := Lib.hid (has_of_owns ho); clear ho) | (go_at_call 60; (with_reducible refine (HAS.out _ _ _ (HHE.out.below (by exact blw))).mono ?_); rintro e wb ⟨rfl, hbb⟩) | (go_at_call 59; (with_reducible refine (HCB.out _ (by exact blw)).mono ?_); rintro e wd ⟨rfl, hbd⟩; have hdc := bc hbd; have hdf := bf hbd; have hdz := hbd.size; try simp only [World.size_alloc, World.size_drew] at hdz)); exact ⟨rfl, .inr ⟨HNO.out, rfl⟩, HBV.out.trans (Below.mono (w := V) (by exact blw) HBV.out.size)⟩)
  obtain ⟨qs, hok⟩ := hok
  have HCK := Lib.hid (show COk bs glyphs rs S qs from cok_of_list HMO.out (by rw [HL.out]; exact h20) (by rw [← HP.out, HL.out]; exact hfP) (by rw [← HP.out, ← HN.out, ← HM.out]; exact hok))
  have HCG := Lib.hid (fun W hW => (HCL.out W hW).mono (R' := fun e w' => ∃ ps go, e = .returned (.slice (some ⟨go, 0, none⟩) M M) ∧ w'.ownsRow W.heap.size 123 1 (.slice (some ⟨go, 0, none⟩) M M) M (ps.map fun g => ptrV (some g)) ∧ TabsAt W.heap.size (bs.drop P) qs ps w' ∧ Below W.heap.size W w') (by
    rintro e w' ⟨(⟨qs', ps, go, h1, h2, h3, h4⟩ | ⟨h, _⟩), hb⟩
    · have e1 : qs' = qs := List.ext_getElem (h1.len.trans hok.len.symm) fun i hi hj => (h1.each i _ (List.getElem?_eq_getElem hi)).2.det (hok.each i _ (List.getElem?_eq_getElem hj)).2
      subst e1
      exact ⟨ps, go, h2, h3, h4, hb⟩
    · exact absurd hok (h qs)))
  have HQL := Lib.hid (show qs.length = M from hok.len)
  clear hok HCL
  refine wp_region_tree (.step 0 (.step 1 (.step 2 (.step 5 (.step 3 (.step 4 (.step 6 (.step 7 (.step 8 (.step 9 .nil)))))))))) (by kernel_rfl) (by kernel_rfl) (by kernel_rfl) (by kernel_rfl) (by intro _ _ d_ _ _ h_; cases d_ <;> first | exact h_ | (dsimp +zetaDelta only at h_ ⊢; exact h_)) (fun w' => ∃ p : Wld V [], w' = p.val) (wld_start _ _) ?_
  have hG_ := @wldC V
  (refine tree_quiet (by simp only [List.getElem?_toArray, List.getElem?_cons_succ, List.getElem?_cons_zero]; rfl) (by rfl) (by rfl) (fun K_ hK_ => ?_); go_big_quiet_op; refine hK_ _ ?_; clear hK_ K_)
  (refine tree_quiet (by simp only [List.getElem?_toArray, List.getElem?_cons_succ, List.getElem?_cons_zero]; rfl) (by rfl) (by rfl) (fun K_ hK_ => ?_); go_big_quiet_op; refine hK_ _ ?_; clear hK_ K_)
  (refine tree_quiet (by simp only [List.getElem?_toArray, List.getElem?_cons_succ, List.getElem?_cons_zero]; rfl) (by rfl) (by rfl) (fun K_ hK_ => ?_); go_big_quiet_op; refine hK_ _ ?_; clear hK_ K_)
  (refine tree_quiet (by simp only [List.getElem?_toArray, List.getElem?_cons_succ, List.getElem?_cons_zero]; rfl) (by rfl) (by rfl) (fun K_ hK_ => ?_); go_big_quiet_op; refine hK_ _ ?_; clear hK_ K_)
  (refine tree_run (by simp only [List.getElem?_toArray, List.getElem?_cons_succ, List.getElem?_cons_zero]; rfl) (by rfl) (by rfl) (fun K_ hK_ => ?_); have HK_ := Lib.hid hK_; clear hK_; go_wp2_with (first | (go_at_call 61; (with_reducible refine (HEN.out _ (by exact blw)).mono ?_); rintro e wa ⟨aE, cE, rfl, ho, _, _, _, hba⟩; have HHE := Lib.hid (has_of_owns ho); clear ho) | (go_at_call 60; (with_reducible refine (HAS.out _ _ _ (HHE.out.below (by exact blw))).mono ?_); rintro e wb ⟨rfl, hbb⟩) | (go_at_call 59; (with_reducible refine (HCG.out _ (by exact blw)).mono ?_); rintro e wd ⟨ps, go, rfl, hown, htab, hbd⟩; have HOW := Lib.hid hown; have HTB := Lib.hid htab; clear hown htab)); refine HK_.out _ _ (wld_ofA) ?_; clear HK_)
  (refine tree_run (by simp only [List.getElem?_toArray, List.getElem?_cons_succ, List.getElem?_cons_zero]; rfl) (by rfl) (by rfl) (fun K_ hK_ => ?_); have HK_ := Lib.hid hK_; clear hK_; go_wp2_with (first | (go_at_call 61; (with_reducible refine (HEN.out _ (by exact blw)).mono ?_); rintro e wa ⟨aE, cE, rfl, ho, _, _, _, hba⟩; have HHE := Lib.hid (has_of_owns ho); clear ho) | (go_at_call 60; (with_reducible refine (HAS.out _ _ _ (HHE.out.below (by exact blw))).mono ?_); rintro e wb ⟨rfl, hbb⟩) | (go_at_call 59; (with_reducible refine (HCG.out _ (by exact blw)).mono ?_); rintro e wd ⟨ps, go, rfl, hown, htab, hbd⟩; have HOW := Lib.hid hown; have HTB := Lib.hid htab; clear hown htab)); refine HK_.out _ _ (wld_ofA) ?_; clear HK_)
  (refine tree_run (by simp only [List.getElem?_toArray, List.getElem?_cons_succ, List.getElem?_cons_zero]; rfl) (by rfl) (by rfl) (fun K_ hK_ => ?_); have HK_ := Lib.hid hK_; clear hK_; go_wp2_with (first | (go_at_call 61; (with_reducible refine (HEN.out _ (by exact blw)).mono ?_); rintro e wa ⟨aE, cE, rfl, ho, _, _, _, hba⟩; have HHE := Lib.hid (has_of_owns ho); clear ho) | (go_at_call 60; (with_reducible refine (HAS.out _ _ _ (HHE.out.below (by exact blw))).mono ?_); rintro e wb ⟨rfl, hbb⟩) | (go_at_call 59; (with_reducible refine (HCG.out _ (by exact blw)).mono ?_); rintro e wd ⟨ps, go, rfl, hown, htab, hbd⟩; have HOW := Lib.hid hown; have HTB := Lib.hid htab; clear hown htab)); refine HK_.out _ _ (wld_ofA) ?_; clear HK_)
  (refine tree_quiet (by simp only [List.getElem?_toArray, List.getElem?_cons_succ, List.getElem?_cons_zero]; rfl) (by rfl) (by rfl) (fun K_ hK_ => ?_); go_big_quiet_op; refine hK_ _ ?_; clear hK_ K_)
  (refine tree_run (by simp only [List.getElem?_toArray, List.getElem?_cons_succ, List.getElem?_cons_zero]; rfl) (by rfl) (by rfl) (fun K_ hK_ => ?_); have HK_ := Lib.hid hK_; clear hK_; go_wp2_with (first | (go_at_call 61; (with_reducible refine (HEN.out _ (by exact blw)).mono ?_); rintro e wa ⟨aE, cE, rfl, ho, _, _, _, hba⟩; have HHE := Lib.hid (has_of_owns ho); clear ho) | (go_at_call 60; (with_reducible refine (HAS.out _ _ _ (HHE.out.below (by exact blw))).mono ?_); rintro e wb ⟨rfl, hbb⟩) | (go_at_call 59; (with_reducible refine (HCG.out _ (by exact blw)).mono ?_); rintro e wd ⟨ps, go, rfl, hown, htab, hbd⟩; have HOW := Lib.hid hown; have HTB := Lib.hid htab; clear hown htab)); refine HK_.out _ _ (wld_ofA) ?_; clear HK_)
  (refine tree_quiet (by simp only [List.getElem?_toArray, List.getElem?_cons_succ, List.getElem?_cons_zero]; rfl) (by rfl) (by rfl) (fun K_ hK_ => ?_); go_big_quiet_op; refine hK_ _ ?_; clear hK_ K_)
  refine tree_nil ?_
  clear hG_
  have hb9 : Below V.heap.size V wd := (by exact blw)
  go_wp2_with fail
  go_ret
  have hbA : Below V.heap.size V (wd.alloc (Obj.cells #[Value.pointer (some ⟨g, 0, none⟩), .slice (some ⟨go, 0, none⟩) M M] 99)) := balloc hb9 _
  have hwV : w.heap.size ≤ V.heap.size := by omega
  have hwb : w.heap.size ≤ wb.heap.size := by have e1 : V.heap.size ≤ wa.heap.size := hba.size; have e2 := hbb.size; omega
  refine ⟨.inl ⟨rs, S, qs, _, HCK.out, rfl, ⟨g, go, ps, by rw [HQL.out, heap_push]; exact if_pos rfl, (HMV.out.below hbA).mono (by simp), by rw [HQL.out]; exact owns_mono (HOW.out.alloc _) hwb, HTB.out.len, fun i q g hi hp => ?_⟩, by have := hb9.size; omega⟩, HBV.out.trans (hbA.mono hwV)⟩
  obtain ⟨f, ht⟩ := HTB.out.each i q g hi hp
  refine ⟨f, ?_⟩
  rw [← vb_off, ← HP.out]
  exact (ht.below (balloc (brefl _) _)).monoM hwb
theorem ctake_ok (a : Option Addr) (n c : Nat) (bs : List UInt8) (glyphs : Nat) (rs : List RP) (S : Nat) (qs : List (List RP)) (w : World) (hh : Has w a (bytesV bs)) (hbl : bs.length = n) (hnc : n ≤ c) (hc : c ≤ maxLen) (hg1 : 1 ≤ glyphs) (hg2 : glyphs ≤ 65535) (hok : COk bs glyphs rs S qs) :
    Calls Try.prog 26 #[.agg #[.slice a n c], .int .i64 (glyphs : Nat)] w fun e w' => ∃ g, e = .returned (.pointer (some ⟨g, 0, none⟩)) ∧ CIs w.heap.size g bs rs S qs w' ∧ Below w.heap.size w w' := by
  refine (ctake_any a n c bs glyphs _ rfl w hh hbl hnc hc hg1 hg2).mono ?_
  rintro e w' ⟨(⟨rs', S', qs', g, hr, he, ht⟩ | ⟨hno, _⟩), hb⟩
  · obtain ⟨rfl, rfl, rfl⟩ := hok.det hr
    exact ⟨g, he, ht, hb⟩
  · exact absurd hok (hno rs S qs)
theorem ctake_bad (a : Option Addr) (n c : Nat) (bs : List UInt8) (glyphs : Nat) (w : World) (hh : Has w a (bytesV bs)) (hbl : bs.length = n) (hnc : n ≤ c) (hc : c ≤ maxLen) (hg1 : 1 ≤ glyphs) (hg2 : glyphs ≤ 65535) (hno : ∀ rs S qs, ¬ COk bs glyphs rs S qs) :
    Calls Try.prog 26 #[.agg #[.slice a n c], .int .i64 (glyphs : Nat)] w fun e w' => e = .panicked thrown ∧ Below w.heap.size w w' := by
  refine (ctake_any a n c bs glyphs _ rfl w hh hbl hnc hc hg1 hg2).mono ?_
  rintro e w' ⟨(⟨rs', S', qs', g, hr, _⟩ | ⟨_, he⟩), hb⟩
  · exact absurd hr (hno rs' S' qs')
  · exact ⟨he, hb⟩
end Go.Proofs.Ytcegoenlajkgfaa
end
section

/- A lookup's glyphs in the places of a line's: what Run of a subtable of single glyphs does. Conditions: a subtable and a line in memory; sizes. -/
namespace Go.Proofs.Ytcegoenlajkgfaa
open Go.RowKit Go.Lib

/-- What a lookup gives a glyph. -/
abbrev LkF := Int → Nat × Bool
def swap1 (lk : LkF) (p : Int × Int) : Int × Int := if p.1 = 65535 then p else if (lk p.1).2 = true then (((lk p.1).1 : Nat), p.2) else p
def swapL (lk : LkF) (l : List (Int × Int)) : List (Int × Int) := l.map (swap1 lk)
theorem swapL_length (lk : LkF) (l : List (Int × Int)) : (swapL lk l).length = l.length := by simp [swapL]
def swapP (lk : LkF) (l : List (Int × Int)) (j : Nat) : List (Int × Int) := (l.take j).map (swap1 lk) ++ l.drop j
theorem swapP_zero (lk : LkF) (l : List (Int × Int)) : swapP lk l 0 = l := by simp [swapP]
theorem swapP_all (lk : LkF) (l : List (Int × Int)) (j : Nat) (h : l.length ≤ j) : swapP lk l j = swapL lk l := by
  unfold swapP swapL
  rw [List.take_of_length_le h, List.drop_of_length_le h, List.append_nil]
theorem swapP_length (lk : LkF) (l : List (Int × Int)) (j : Nat) : (swapP lk l j).length = l.length := by
  simp [swapP]
  omega
theorem swapP_get (lk : LkF) (l : List (Int × Int)) (j : Nat) (p : Int × Int) (h : l[j]? = some p) : (swapP lk l j)[j]? = some p := by
  have hlt := (List.getElem?_eq_some_iff.1 h).1
  unfold swapP
  rw [List.getElem?_append_right (by simp; omega)]
  simp only [List.length_map, List.length_take]
  rw [Nat.min_eq_left (by omega), Nat.sub_self, List.getElem?_drop, Nat.add_zero, h]
theorem swapP_set (lk : LkF) (l : List (Int × Int)) (j : Nat) (p : Int × Int) (h : l[j]? = some p) : (swapP lk l j).set j (swap1 lk p) = swapP lk l (j + 1) := by
  have hlt := (List.getElem?_eq_some_iff.1 h).1
  have hlen : ((l.take j).map (swap1 lk)).length = j := by simp; omega
  unfold swapP
  rw [List.set_append_right _ _ (by rw [hlen]; exact Nat.le_refl _), hlen, Nat.sub_self, List.drop_eq_getElem_cons hlt, List.set_cons_zero, List.take_add_one, h]
  simp
theorem swapP_same (lk : LkF) (l : List (Int × Int)) (j : Nat) (p : Int × Int) (h : l[j]? = some p) (h1 : swap1 lk p = p) : swapP lk l (j + 1) = swapP lk l j := by
  rw [← swapP_set lk l j p h, h1]
  have := swapP_get lk l j p h
  obtain ⟨hl, e⟩ := List.getElem?_eq_some_iff.1 this
  rw [← e]
  exact List.set_getElem_self hl
/-- What a change of a line's glyphs may touch: the line's row. -/
def ownS (bk : Option Nat) (k t : Nat) : Prop := t = 57 ∧ bk = some k
theorem ownBlockS (a : Option Addr) (n c : Nat) : (Value.slice a n c).ownBlock = a.map (·.block) := by cases a <;> rfl
theorem GStep.keepS {bk : Option Nat} {B g : Nat} {a : Option Addr} {c : Nat} {l l' : List (Int × Int)} {w w' : World} (h : GStep B g a a w w') (hg : GIs B g a c l w) (hg' : GIs B g a c l' w') (hl : l'.length = l.length) (hbk : a.map (·.block) = bk) (hz : w.heap.size ≤ w'.heap.size) : KeepC B (ownS bk) w w' := by
  refine ⟨h.below, hz, fun k cs t fz hk ho => ?_⟩
  by_cases e2 : k = g
  · subst e2
    rw [hg'.hd, hg.hd, hl]
  · refine h.keep k (Array.getElem?_eq_some_iff.1 hk).1 e2 ?_
    by_cases e : t = 57
    · intro h2; exact ho ⟨e, hbk.symm.trans h2.symm⟩
    · rw [← ownBlockS a l.length c]; exact own_neE hg.row hk e
theorem gset_keep (B g : Nat) (a : Option Addr) (c : Nat) (l : List (Int × Int)) (w : World) (h : GIs B g a c l w) (z x : Int) :
    Calls Try.prog 65 #[.pointer (some ⟨g, 0, none⟩), .int .i64 z, .int .i64 x] w fun e w' => e = .returned (.bool (inG l z)) ∧ GIs B g a c (setG l z x) w' ∧ KeepC B (ownS (a.map (·.block))) w w' := by
  refine (gset_any B g a c l w h z x).mono ?_
  rintro e w' ⟨he, h1, h2, h3⟩
  exact ⟨he, h1, h2.keepS h h1 (by split <;> simp) rfl (by omega)⟩
theorem GIs.rowIn {B g c : Nat} {a : Option Addr} {l : List (Int × Int)} {w : World} (h : GIs B g a c l w) : ∀ k, a.map (·.block) = some k → B ≤ k ∧ k < w.heap.size := by
  intro k hk
  rcases h.row.2 with ⟨hv, _⟩ | ⟨b, cap, cur, hv, hg, hh, r⟩
  · injection hv with hv _ _
    rw [hv] at hk
    cases hk
  · injection hv with hv _ _
    rw [hv] at hk
    injection hk with hk
    simp only at hk
    subst hk
    exact ⟨hg, (Array.getElem?_eq_some_iff.1 hh).1⟩
theorem ownS_no {bk : Option Nat} {t : Nat} (ht : t ≠ 57) : ∀ k, ¬ ownS bk k t := fun _ h => ht h.1
/-- A lookup in memory, within what keeps all but a line's row. -/
theorem TabIs.keepS {B B0 g fmt : Nat} {bk : Option Nat} {ps : List PartL} {ns : List Nat} {w w' : World} (h : TabIs B g fmt ps ns w) (hk : KeepC B0 (ownS bk) w w') : TabIs B g fmt ps ns w' :=
  h.keepC hk (ownS_no (by decide)) (ownS_no (by decide)) (ownS_no (by decide) _)
/-- A subtable of single glyphs in memory. -/
structure SwIs (Bt gx : Nat) (bs : List UInt8) (rs : List RP) (w : World) : Prop where
  is : ∃ gt fmt, w.heap[gx]? = some (.cells #[.pointer (some ⟨gt, 0, none⟩)] 127 (0, 0)) ∧ TabIs Bt gt fmt (tabR bs rs).1 (tabR bs rs).2 w
theorem SwIs.below {Bt gx : Nat} {bs : List UInt8} {rs : List RP} {w w' : World} (h : SwIs Bt gx bs rs w) (hb : Below w.heap.size w w') : SwIs Bt gx bs rs w' := by
  obtain ⟨gt, fmt, h1, h2⟩ := h.is
  exact ⟨gt, fmt, (hb.block _ (Array.getElem?_eq_some_iff.1 h1).1).trans h1, h2.below hb⟩
theorem SwIs.keep {Bt B0 gx : Nat} {bk : Option Nat} {bs : List UInt8} {rs : List RP} {w w' : World} (h : SwIs Bt gx bs rs w) (hk : KeepC B0 (ownS bk) w w') : SwIs Bt gx bs rs w' := by
  obtain ⟨gt, fmt, h1, h2⟩ := h.is
  exact ⟨gt, fmt, (hk.kept _ _ _ _ h1 (ownS_no (by decide) _)).trans h1, h2.keepS hk⟩
def lkR (bs : List UInt8) (rs : List RP) : LkF := fun id => getL (tabR bs rs).1 (tabR bs rs).2 id
theorem owns_keepS {w w' : World} {B base n : Nat} {bk : Option Nat} {v : Value} {xs : List Value} (ho : w.ownsRow base 57 2 v n xs) (hk : KeepC B (ownS bk) w w') (hne : ∀ k, bk = some k → k < base) : w'.ownsRow base 57 2 v n xs := by
  refine ⟨ho.1, ?_⟩
  rcases ho.2 with q | ⟨q, cap, cur, hv, hq, hh, r⟩
  · exact .inl q
  · exact .inr ⟨q, cap, cur, hv, hq, by rw [hk.kept q _ _ _ hh (fun h => by have := hne q h.2; omega)]; exact hh, r⟩
set_option maxRecDepth 100000 in
set_option maxHeartbeats 3200000 in
theorem swrun_any (Bt gx : Nat) (bs : List UInt8) (rs : List RP) (B gl : Nat) (a : Option Addr) (c : Nat) (l : List (Int × Int)) (w : World) (hT : SwIs Bt gx bs rs w) (hf : FitL (tabR bs rs).1 (tabR bs rs).2) (hG : GIs B gl a c l w) (hB : B ≤ w.heap.size) (hids : ∀ p ∈ l, -9223372036854775808 ≤ p.1 ∧ p.1 ≤ 9223372036854775807) (hl : l.length ≤ 1000000) :
    Calls Try.prog 34 #[.pointer (some ⟨gx, 0, none⟩), .pointer (some ⟨gl, 0, none⟩)] w fun e w' => e = .returned (.int .i64 0) ∧ GIs B gl a c (swapL (lkR bs rs) l) w' ∧ KeepC B (ownS (a.map (·.block))) w w' := by
  have hAC := allocC
  have hAF := allocF
  obtain ⟨gt, fmt, hx, hT2⟩ := hT.is
  obtain ⟨n, hn⟩ : ∃ n, n = l.length := ⟨_, rfl⟩
  have hgl := gglyphs_any B gl a c l w hG hl
  rw [← hn] at hgl
  have HGL := Lib.hid hgl
  have HN := Lib.hid hn
  have HX := Lib.hid hx
  have HT2 := Lib.hid hT2
  have HRI := Lib.hid (fun k hk => (hG.rowIn k hk).2)
  have HG := Lib.hid hG
  have HF := Lib.hid hf
  have HID := Lib.hid hids
  rw [← hn] at hl
  clear hT hx hT2 hG hn hgl hf hids
  go_enter Try.func34, Try.ntmps34
  go_wp2_with (go_at_call 21; (with_reducible refine HGL.out.mono ?_); rintro e w0 ⟨a8, c8, rfl, ho, _, _, _, hb0⟩; have HO0 := Lib.hid ho; have HB0 := Lib.hid hb0; clear ho hb0)
  have hz0 := HB0.out.size
  go_loopw [12] (fun i wr => ∃ j : Nat, j ≤ n ∧ i = .int .i64 (j : Nat) ∧ GIs B gl a c (swapP (lkR bs rs) l j) wr ∧ KeepC B (ownS (a.map (·.block))) w wr ∧ wr.ownsRow w.heap.size 57 2 (.slice a8 n c8) n (gv l)) (fun i _ => n - (RowKit.intOf i).toNat)
  case atStart => exact ⟨0, Nat.zero_le _, rfl, by rw [swapP_zero]; exact HG.out.below HB0.out, KeepC.of HB0.out hB, HO0.out⟩
  case round =>
    obtain ⟨j, hj, rfl, hg, hk, ho⟩ := hrel
    rename World => wr
    have HGR := Lib.hid hg
    have HK := Lib.hid hk
    have HO := Lib.hid ho
    have hzr := hk.size
    clear hg hk ho
    by_cases hlt : j < n
    · obtain ⟨gi, p, rfl, hgi, hgz, hp, hc1, hc2, _, _, _, _⟩ := grow_at HO.out HN.out.symm hlt
      have hpp := swapP_get (lkR bs rs) l j p hp
      have hidp := HID.out p (List.mem_of_getElem? hp)
      have HPP := Lib.hid hpp
      have HP := Lib.hid hp
      obtain ⟨p1, p2⟩ := p
      simp only at hidp hc1 hc2
      clear hpp hp
      by_cases h5 : p1 = 65535
      · have d1 : (p1 == 65535) = true := by simpa using h5
        have hsame := swapP_same (lkR bs rs) l j (p1, p2) HP.out (by unfold swap1; rw [if_pos h5])
        have HS := Lib.hid hsame
        clear hsame h5
        go_wp2_with fail
        go_roundw
        case rel => exact ⟨j + 1, hlt, by go_num, by rw [HS.out]; exact HGR.out.below (balloc (brefl _) _), HK.out.trans (KeepC.of (balloc (brefl _) _) (Nat.le_trans hB hzr)), HO.out.alloc _⟩
        case measure => simp only [RowKit.intOf]; omega
      · have d1 : (p1 == 65535) = false := by simpa using h5
        have HGT := Lib.hid (fun W (hW : TabIs Bt gt fmt (tabR bs rs).1 (tabR bs rs).2 W) => show Calls Try.prog 64 #[.pointer (some ⟨gt, 0, none⟩), .int .i64 p1] W fun e w' => e = .returned (.tuple #[.int .i64 ((lkR bs rs p1).1 : Nat), .bool (lkR bs rs p1).2]) ∧ Below W.heap.size W w' from get_fn Bt gt fmt _ _ p1 W hW HF.out hidp)
        have HS := Lib.hid (show (lkR bs rs p1).2 = true → setG (swapP (lkR bs rs) l j) (j : Nat) ((lkR bs rs p1).1 : Nat) = swapP (lkR bs rs) l (j + 1) from fun h => by
          rw [setG_of HPP.out, ← swapP_set (lkR bs rs) l j (p1, p2) HP.out]
          unfold swap1
          rw [if_neg h5, if_pos h])
        have HNS := Lib.hid (show (lkR bs rs p1).2 = false → swapP (lkR bs rs) l (j + 1) = swapP (lkR bs rs) l j from fun h => swapP_same (lkR bs rs) l j (p1, p2) HP.out (by unfold swap1; rw [if_neg h5, if_neg (by rw [h]; decide)]))
        generalize lkR bs rs p1 = q at *
        obtain ⟨q1, q2⟩ := q
        simp only at HGT HS HNS
        clear h5
        go_wp2_with fail
        obtain ⟨V, hV⟩ : ∃ V, V = wr.alloc (Obj.cells #[.int .i64 p1, .int .i64 p2] 57) := ⟨_, rfl⟩
        have hbV : Below wr.heap.size wr V := by rw [hV]; exact balloc (brefl _) _
        have x6 : V.heap[wr.heap.size]? = some (.cells #[.int .i64 p1, .int .i64 p2] 57 (0, 0)) := by rw [hV]; exact (heap_push _ _ _).trans (if_pos rfl)
        have hxV := (hbV.block _ (Array.getElem?_eq_some_iff.1 (HK.out.kept _ _ _ _ HX.out (ownS_no (by decide) _) |>.trans HX.out)).1).trans (HK.out.kept _ _ _ _ HX.out (ownS_no (by decide) _) |>.trans HX.out)
        rw [← hV]
        have q6 := fun o => cell_of_heap x6 o
        have l6 := (Array.getElem?_eq_some_iff.1 x6).1
        have qx := cell_of_heap hxV 0
        have lx := (Array.getElem?_eq_some_iff.1 hxV).1
        simp only [List.getElem?_toArray, List.getElem?_cons_zero] at qx
        have HGV := Lib.hid (HGR.out.below hbV)
        have HKV := Lib.hid (HK.out.trans (KeepC.of hbV (Nat.le_trans hB hzr)))
        have HTV := Lib.hid (HT2.out.keepS HKV.out)
        have HOV := Lib.hid (owns_below HO.out hbV (Nat.le_refl _))
        have HGT2 := Lib.hid (fun W (hW : Below V.heap.size V W) => HGT.out W (HTV.out.below hW))
        clear hV hbV x6 hxV hc1 hc2
        refine wp_region_tree (.step 0 (.step 1 (.step 2 (.step 3 (.step 4 (.step 5 (.step 6 (.step 7 (.step 8 (.step 9 (.step 10 (.step 11 .nil)))))))))))) (by kernel_rfl) (by kernel_rfl) (by kernel_rfl) (by kernel_rfl) (by intro _ _ d_ _ _ h_; cases d_ <;> first | exact h_ | (dsimp +zetaDelta only at h_ ⊢; exact h_)) (fun w' => ∃ p : Wld V [], w' = p.val) (wld_start _ _) ?_
        have hG_ := @wldC V
        (refine tree_quiet (by simp only [List.getElem?_toArray, List.getElem?_cons_succ, List.getElem?_cons_zero]; rfl) (by rfl) (by rfl) (fun K_ hK_ => ?_); go_big_quiet_op; refine hK_ _ ?_; clear hK_ K_)
        (refine tree_quiet (by simp only [List.getElem?_toArray, List.getElem?_cons_succ, List.getElem?_cons_zero]; rfl) (by rfl) (by rfl) (fun K_ hK_ => ?_); go_big_quiet_op; refine hK_ _ ?_; clear hK_ K_)
        (refine tree_quiet (by simp only [List.getElem?_toArray, List.getElem?_cons_succ, List.getElem?_cons_zero]; rfl) (by rfl) (by rfl) (fun K_ hK_ => ?_); go_big_quiet_op; refine hK_ _ ?_; clear hK_ K_)
        (refine tree_quiet (by simp only [List.getElem?_toArray, List.getElem?_cons_succ, List.getElem?_cons_zero]; rfl) (by rfl) (by rfl) (fun K_ hK_ => ?_); go_big_quiet_op; refine hK_ _ ?_; clear hK_ K_)
        (refine tree_quiet (by simp only [List.getElem?_toArray, List.getElem?_cons_succ, List.getElem?_cons_zero]; rfl) (by rfl) (by rfl) (fun K_ hK_ => ?_); go_big_quiet_op; refine hK_ _ ?_; clear hK_ K_)
        (refine tree_quiet (by simp only [List.getElem?_toArray, List.getElem?_cons_succ, List.getElem?_cons_zero]; rfl) (by rfl) (by rfl) (fun K_ hK_ => ?_); go_big_quiet_op; refine hK_ _ ?_; clear hK_ K_)
        (refine tree_run (by simp only [List.getElem?_toArray, List.getElem?_cons_succ, List.getElem?_cons_zero]; rfl) (by rfl) (by rfl) (fun K_ hK_ => ?_); have HK_ := Lib.hid hK_; clear hK_; go_wp2_with ((go_at_call 64; (with_reducible refine (HGT2.out _ (by exact blw)).mono ?_); rintro e w2 ⟨rfl, hb2⟩)); refine HK_.out _ _ (wld_ofA) ?_; clear HK_)
        (refine tree_quiet (by simp only [List.getElem?_toArray, List.getElem?_cons_succ, List.getElem?_cons_zero]; rfl) (by rfl) (by rfl) (fun K_ hK_ => ?_); go_big_quiet_op; refine hK_ _ ?_; clear hK_ K_)
        (refine tree_quiet (by simp only [List.getElem?_toArray, List.getElem?_cons_succ, List.getElem?_cons_zero]; rfl) (by rfl) (by rfl) (fun K_ hK_ => ?_); go_big_quiet_op; refine hK_ _ ?_; clear hK_ K_)
        (refine tree_quiet (by simp only [List.getElem?_toArray, List.getElem?_cons_succ, List.getElem?_cons_zero]; rfl) (by rfl) (by rfl) (fun K_ hK_ => ?_); go_big_quiet_op; refine hK_ _ ?_; clear hK_ K_)
        (refine tree_quiet (by simp only [List.getElem?_toArray, List.getElem?_cons_succ, List.getElem?_cons_zero]; rfl) (by rfl) (by rfl) (fun K_ hK_ => ?_); go_big_quiet_op; refine hK_ _ ?_; clear hK_ K_)
        (refine tree_quiet (by simp only [List.getElem?_toArray, List.getElem?_cons_succ, List.getElem?_cons_zero]; rfl) (by rfl) (by rfl) (fun K_ hK_ => ?_); go_big_quiet_op; refine hK_ _ ?_; clear hK_ K_)
        refine tree_nil ?_
        clear hG_
        have hb2 : Below V.heap.size V w2 := (by exact blw)
        have HGW := Lib.hid (HGV.out.below hb2)
        have HOW := Lib.hid (owns_below HOV.out hb2 (Nat.le_refl _))
        have HKW := Lib.hid (HKV.out.trans (KeepC.of hb2 (Nat.le_trans hB HKV.out.size)))
        clear q6 qx
        cases q2 with
        | true =>
          have hst := gset_keep B gl a c _ w2 HGW.out (j : Nat) (q1 : Nat)
          rw [HS.out rfl] at hst
          have HST := Lib.hid hst
          clear hst HS
          go_wp2_with (go_at_call 65; (with_reducible refine HST.out.mono ?_); rintro e w3 ⟨rfl, hg3, hk3⟩; have HG3 := Lib.hid hg3; have HO3 := Lib.hid (owns_keepS HOW.out hk3 HRI.out); have HK3 := Lib.hid (HKW.out.trans hk3); clear hg3 hk3)
          go_roundw
          case rel => exact ⟨j + 1, hlt, by go_num, HG3.out, HK3.out, HO3.out⟩
          case measure => simp only [RowKit.intOf]; omega
        | false =>
          have hgw := HGW.out
          rw [← HNS.out rfl] at hgw
          have HGW := Lib.hid hgw
          clear hgw HNS
          go_wp2_with fail
          go_roundw
          case rel => exact ⟨j + 1, hlt, by go_num, HGW.out, HKW.out, HOW.out⟩
          case measure => simp only [RowKit.intOf]; omega
    · obtain rfl : n = j := by omega
      go_wp2_with fail
      go_ret
      exact ⟨rfl, by have := HGR.out; rwa [swapP_all _ _ _ (by rw [← HN.out]; exact Nat.le_refl _)] at this, HK.out⟩
end Go.Proofs.Ytcegoenlajkgfaa
end
section

/- Read of a subtable of single glyphs, and what its law asks first. Conditions: bytes as the slice says. -/
namespace Go.Proofs.Ytcegoenlajkgfaa
open Go.RowKit Go.Lib

def SwReadIs (bs : List UInt8) (zg : Int) (w : World) (e : Ending) (w' : World) : Prop :=
  (((zg < 1 ∨ 65535 < zg) ∧ e = .returned (.tuple #[.pointer none, .int .i64 1])) ∨
   (1 ≤ zg ∧ zg ≤ 65535 ∧ (∀ rs, ¬ LkOk bs zg.toNat 2 rs) ∧ e = .returned (.tuple #[.pointer none, .int .i64 2])) ∨
   (1 ≤ zg ∧ zg ≤ 65535 ∧ ∃ rs gx, LkOk bs zg.toNat 2 rs ∧ e = .returned (.tuple #[.pointer (some ⟨gx, 0, none⟩), .int .i64 0]) ∧ SwIs w.heap.size gx bs rs w')) ∧ Below w.heap.size w w'
set_option maxRecDepth 100000 in
set_option maxHeartbeats 1600000 in
theorem swread_any (a : Option Addr) (n c : Nat) (bs : List UInt8) (zg : Int) (w : World) (h : Has w a (bytesV bs)) (hl : bs.length = n) (hn : n ≤ c) (hc : c ≤ maxLen) (hzg : -9223372036854775808 ≤ zg ∧ zg ≤ 9223372036854775807) :
    Calls Try.prog 30 #[.slice a n c, .int .i64 zg] w (SwReadIs bs zg w) := by
  have hAC := allocC
  have hAF := allocF
  have HR := Lib.hid (lread_any a n c bs zg 2 w h hl hn hc hzg (by decide))
  clear h hl hAC hAF
  unfold SwReadIs
  go_enter Try.func30, Try.ntmps30
  go_wp2_with fail
  refine HR.out.mono ?_
  rintro e w1 ⟨(⟨hb, rfl⟩ | ⟨hb, hno, rfl⟩ | ⟨hb, rs, g, hok, rfl, hT⟩), hb1⟩
  · go_wp2_with fail
    go_ret2
    exact ⟨.inl ⟨by unfold badLk at hb; omega, rfl⟩, hb1⟩
  · go_wp2_with fail
    go_ret2
    exact ⟨.inr (.inl ⟨by unfold badLk at hb; omega, by unfold badLk at hb; omega, hno, rfl⟩), hb1⟩
  · have HT := Lib.hid hT
    have HOK := Lib.hid hok
    clear hT hok
    go_wp2_with fail
    go_ret2
    exact ⟨.inr (.inr ⟨by unfold badLk at hb; omega, by unfold badLk at hb; omega, rs, w1.heap.size, HOK.out, rfl, ⟨g, _, by rw [heap_push]; exact if_pos rfl, HT.out.below (balloc (brefl _) _)⟩⟩), balloc hb1 _⟩
theorem swread_some (a : Option Addr) (n c : Nat) (bs : List UInt8) (glyphs : Nat) (zg : Int) (hzg : zg = (glyphs : Nat)) (rs : List RP) (w : World) (h : Has w a (bytesV bs)) (hl : bs.length = n) (hn : n ≤ c) (hc : c ≤ maxLen) (hg1 : 1 ≤ glyphs) (hg2 : glyphs ≤ 65535) (hok : LkOk bs glyphs 2 rs) :
    Calls Try.prog 30 #[.slice a n c, .int .i64 zg] w fun e w' => ∃ gx, e = .returned (.tuple #[.pointer (some ⟨gx, 0, none⟩), .int .i64 0]) ∧ SwIs w.heap.size gx bs rs w' ∧ Below w.heap.size w w' := by
  subst hzg
  refine (swread_any a n c bs _ w h hl hn hc (by omega)).mono ?_
  rintro e w' ⟨(⟨hb, _⟩ | ⟨_, _, hno, _⟩ | ⟨_, _, rs', gx, hok', he, hT⟩), hb1⟩
  · omega
  · exact absurd hok (by have := hno rs; rwa [Int.toNat_natCast] at this)
  · rw [Int.toNat_natCast] at hok'
    obtain rfl := hok.det hok'
    exact ⟨gx, he, hT, hb1⟩
theorem swread_none (a : Option Addr) (n c : Nat) (bs : List UInt8) (glyphs : Nat) (zg : Int) (hzg : zg = (glyphs : Nat)) (w : World) (h : Has w a (bytesV bs)) (hl : bs.length = n) (hn : n ≤ c) (hc : c ≤ maxLen) (hg1 : 1 ≤ glyphs) (hg2 : glyphs ≤ 65535) (hno : ∀ rs, ¬ LkOk bs glyphs 2 rs) :
    Calls Try.prog 30 #[.slice a n c, .int .i64 zg] w fun e w' => e = .returned (.tuple #[.pointer none, .int .i64 2]) ∧ Below w.heap.size w w' := by
  subst hzg
  refine (swread_any a n c bs _ w h hl hn hc (by omega)).mono ?_
  rintro e w' ⟨(⟨hb, _⟩ | ⟨_, _, _, he⟩ | ⟨_, _, rs', gx, hok', _⟩), hb1⟩
  · omega
  · exact ⟨he, hb1⟩
  · rw [Int.toNat_natCast] at hok'
    exact absurd hok' (hno rs')
/-- The document's Read of a lookup. -/
theorem reflk_yes (a : Option Addr) (n c : Nat) (bs : List UInt8) (glyphs : Nat) (zg : Int) (hzg : zg = (glyphs : Nat)) (rs : List RP) (w : World) (h : Has w a (bytesV bs)) (hl : bs.length = n) (hn : n ≤ c) (hc : c ≤ maxLen) (h20 : n ≤ 2000) (hg1 : 1 ≤ glyphs) (hg2 : glyphs ≤ 65535) (hok : LkOk bs glyphs 2 rs) :
    Calls Try.prog 31 #[.slice a n c, .int .i64 zg, .int .i64 2] w fun e w' => ∃ a' c', e = .returned (.tuple #[.agg #[.slice a n c, .slice a' rs.length c'], .bool true]) ∧ Has w' a' (encRs rs) ∧ Below w.heap.size w w' := by
  refine (refRead_any a n c bs glyphs 2 zg 2 hzg rfl hg1 hg2 (.inl rfl) w h hl hn hc h20).mono ?_
  rintro e w' ⟨(⟨rs', a', c', ho, he, hw, _⟩ | ⟨hno, _⟩), hb⟩
  · obtain rfl := hok.det ho
    exact ⟨a', c', he, hw, hb⟩
  · exact absurd hok (hno rs)
theorem reflk_no (a : Option Addr) (n c : Nat) (bs : List UInt8) (glyphs : Nat) (zg : Int) (hzg : zg = (glyphs : Nat)) (w : World) (h : Has w a (bytesV bs)) (hl : bs.length = n) (hn : n ≤ c) (hc : c ≤ maxLen) (h20 : n ≤ 2000) (hg1 : 1 ≤ glyphs) (hg2 : glyphs ≤ 65535) (hno : ∀ rs, ¬ LkOk bs glyphs 2 rs) :
    Calls Try.prog 31 #[.slice a n c, .int .i64 zg, .int .i64 2] w fun e w' => e = .returned (.tuple #[.agg #[.slice none 0 0, .slice none 0 0], .bool false]) ∧ Below w.heap.size w w' := by
  refine (refRead_any a n c bs glyphs 2 zg 2 hzg rfl hg1 hg2 (.inl rfl) w h hl hn hc h20).mono ?_
  rintro e w' ⟨(⟨rs', a', c', ho, _⟩ | ⟨_, he⟩), hb⟩
  · exact absurd ho (hno rs')
  · exact ⟨he, hb⟩
/-- The document's Get of it is the lookup's. -/
theorem lkR_ref {bs : List UInt8} {glyphs : Nat} {rs : List RP} (h : LkOk bs glyphs 2 rs) (hg : glyphs ≤ 65535) (id : Int) : refG bs rs id = lkR bs rs id := by
  have := (refG_tab bs rs h.ok (fun r hr => (h.rows.each hg (.inl rfl)).2 r hr) id rs.length (Nat.le_refl _)).1
  rw [List.take_length] at this
  exact this.symm
theorem reflkget (a : Option Addr) (n c : Nat) (bs : List UInt8) (glyphs : Nat) (a' : Option Addr) (c' : Nat) (rs : List RP) (id : Int) (w : World) (h : Has w a (bytesV bs)) (hl : bs.length = n) (h20 : n ≤ 2000) (hr : Has w a' (encRs rs)) (hg : glyphs ≤ 65535) (hok : LkOk bs glyphs 2 rs) (hid : -9223372036854775808 ≤ id ∧ id ≤ 9223372036854775807) :
    Calls Try.prog 32 #[.agg #[.slice a n c, .slice a' rs.length c'], .int .i64 id] w fun e w' => e = .returned (.tuple #[.int .i64 ((lkR bs rs id).1 : Nat), .bool (lkR bs rs id).2]) ∧ Below w.heap.size w w' := by
  rw [← lkR_ref hok hg]
  exact refget_any a n c bs a' c' rs id w h hl (by omega) hr (by have := (hok.rows.each hg (.inl rfl)).1; omega) (by have := hok.fitG hg (.inl rfl); rwa [hl] at this) hid
end Go.Proofs.Ytcegoenlajkgfaa
end
section

/- The document's Begin, Next and Go: where a machine is on its way. Conditions: a machine in memory; sizes. -/
namespace Go.Proofs.Ytcegoenlajkgfaa
open Go.RowKit Go.Lib

/-- Where a machine is, as a value. -/
def wayA (s z st re most : Nat) (over : Bool) (code : Nat) : Array Value := #[.int .i64 (s : Nat), .int .i64 (z : Nat), .int .i64 (st : Nat), .int .i64 (re : Nat), .int .i64 (most : Nat), .bool over, .int .i64 (code : Nat)]
theorem refbegin_any (n : Nat) (w : World) (hn : n ≤ 1000000) :
    Calls Try.prog 50 #[.int .i64 (n : Nat)] w fun e w' => e = .returned (.agg (wayA 0 0 0 0 (2 * n + 128) false 0)) ∧ Below w.heap.size w w' := by
  have hAC := allocC
  have hAF := allocF
  go_enter Try.func50, Try.ntmps50
  go_wp2_with fail
  refine bodyPost_ret (v := .agg #[.int .i64 0, .int .i64 0, .int .i64 0, .int .i64 0, .int .i64 (2 * (n : Int) + 128), .bool false, .int .i64 0]) (by simp [results, Try.results50, go_sem, hAC, hAF]) rfl ?_
  exact ⟨rfl, blw⟩
set_option maxRecDepth 100000 in
set_option maxHeartbeats 3200000 in
theorem refnext_any (a : Option Addr) (n c : Nat) (bs : List UInt8) (glyphs k : Nat) (rs : List RP) (S : Nat) (a' : Option Addr) (c' : Nat) (s z st re most : Nat) (al : Option Addr) (nl cl : Nat) (l : List (Int × Int)) (w : World) (h : MRf a n c bs glyphs k rs S a' w) (hl : Has w al (gv l)) (hln : l.length = nl) (hids : ∀ p ∈ l, -9223372036854775808 ≤ p.1 ∧ p.1 ≤ 9223372036854775807) (hs : s < S) (hz : z ≤ 1000000000) :
    Calls Try.prog 51 #[.agg (mrefV a n c bs k rs S a' c'), .agg (wayA s z st re most false 0), .slice al nl cl] w fun e w' => e = .returned (.tuple #[entV4 (enM bs k s (clD bs rs l z)), .bool true]) ∧ Below w.heap.size w w' := by
  have hAC := allocC
  have hAF := allocF
  have HM := Lib.hid h
  have HH := Lib.hid hl
  have hC := clD_lt bs rs l z h.ok.cls.1
  have HST := Lib.hid (fun W (hW : Below w.heap.size w W) => show Calls Try.prog 76 #[.agg (mrefV a n c bs k rs S a' c'), .int .i64 (s : Nat), .int .i64 (clD bs rs l z : Nat)] W fun e w' => e = .returned (.tuple #[entV4 (enM bs k s (clD bs rs l z)), .bool true]) ∧ Below W.heap.size W w' from (HM.out.below hW).step c' s (clD bs rs l z) hs hC)
  unfold mrefV mrefA at *
  cases hg : l[z]? with
  | none =>
    have d0 : decide ((z : Int) < (nl : Int)) = false := by have := List.getElem?_eq_none_iff.1 hg; simp; omega
    have d1 : decide (z < nl) = false := by have := List.getElem?_eq_none_iff.1 hg; simp; omega
    rw [show clD bs rs l z = 0 by rw [clD, hg]] at HST ⊢
    rw [show ((0 : Nat) : Int) = 0 from rfl] at HST
    generalize enM bs k s 0 = E at *
    obtain ⟨e0, e1, e2, e3⟩ := E
    simp only [entV4] at HST ⊢
    clear h hl hids hC hg HM HH
    generalize num bs 0 4 = P0 at *
    generalize num bs 4 4 = P4 at *
    generalize num bs 8 4 = P8 at *
    generalize num bs 12 4 = P12 at *
    generalize needE bs S = NE at *
    generalize adv a c P4 = A4 at *
    generalize rs.length = L at *
    unfold wayA
    go_enter Try.func51, Try.ntmps51
    go_wp2_with fail
    obtain ⟨V, hV⟩ : ∃ V, V = ((w.alloc (Obj.cells #[.slice a n c, .int .i64 (P0 : Nat), .int .i64 (P8 : Nat), .int .i64 (P12 : Nat), .int .i64 (S : Nat), .int .i64 (NE : Nat), .int .i64 (k : Nat), .slice A4 (n - P4) (c - P4), .slice a' L c'] 42)).alloc (Obj.cells #[.int .i64 (s : Nat), .int .i64 (z : Nat), .int .i64 (st : Nat), .int .i64 (re : Nat), .int .i64 (most : Nat), .bool false, .int .i64 0] 108)).alloc (Obj.cells #[.int .i64 0, .int .i64 0, .int .i64 0, .int .i64 0] 60) := ⟨_, rfl⟩
    have hbV : Below w.heap.size w V := by rw [hV]; exact balloc (balloc (balloc (brefl w) _) _) _
    have hzV : V.heap.size = w.heap.size + 1 + 1 + 1 := by rw [hV]; simp
    have x3 : V.heap[w.heap.size]? = some (.cells #[.slice a n c, .int .i64 (P0 : Nat), .int .i64 (P8 : Nat), .int .i64 (P12 : Nat), .int .i64 (S : Nat), .int .i64 (NE : Nat), .int .i64 (k : Nat), .slice A4 (n - P4) (c - P4), .slice a' L c'] 42 (0, 0)) := by
      rw [hV, heap_push, if_neg (by simp only [World.size_alloc]; omega), heap_push, if_neg (by simp only [World.size_alloc]; omega), heap_push, if_pos rfl]
    have x4 : V.heap[w.heap.size + 1]? = some (.cells #[.int .i64 (s : Nat), .int .i64 (z : Nat), .int .i64 (st : Nat), .int .i64 (re : Nat), .int .i64 (most : Nat), .bool false, .int .i64 0] 108 (0, 0)) := by
      rw [hV, heap_push, if_neg (by simp only [World.size_alloc]; omega), heap_push, if_pos (by simp only [World.size_alloc])]
    have x6 : V.heap[w.heap.size + 1 + 1]? = some (.cells #[.int .i64 0, .int .i64 0, .int .i64 0, .int .i64 0] 60 (0, 0)) := by
      rw [hV, heap_push, if_pos (by simp only [World.size_alloc])]
    rw [← hV]
    have X3 := Lib.hid x3
    have X4 := Lib.hid x4
    have X6 := Lib.hid x6
    have q3 := fun o => cell_of_heap x3 o
    have q4 := fun o => cell_of_heap x4 o
    have HB := Lib.hid hbV
    have HB1 := Lib.hid hbV
    have Y6 := Lib.hid x6
    have l6 := (Array.getElem?_eq_some_iff.1 x6).1
    clear hV x3 x4 x6 hbV
    refine (HST.out V HB1.out).mono ?_
    rintro e w2 ⟨rfl, hb2⟩
    have hb12 := hb2
    have p6 := (hb12.block _ l6).trans Y6.out
    have q6 := (fun o => cell_of_heap p6 o)
    have f6 := (fun o => froz_of_heap p6 o)
    have l6' := (Array.getElem?_eq_some_iff.1 p6).1
    have HB2 := Lib.hid (HB1.out.trans (hb12.mono HB1.out.size))
    have hn6 : ¬ w2.heap.size = w.heap.size + 1 + 1 := (by omega)
    clear hb2 hb12 p6
    go_wp2_with fail
    refine bodyPost_ret (v := .tuple #[.agg #[.int .i64 (e0 : Nat), .int .i64 (e1 : Nat), .int .i64 (e2 : Nat), .int .i64 (e3 : Nat)], .bool true]) (by simp [results, Try.results51, go_sem, hAC, hAF, q6, f6, l6']) rfl ?_
    exact ⟨rfl, by have h0 := HB2.out; have h0z := h0.size; exact blw⟩
  | some p =>
    have hlt := (List.getElem?_eq_some_iff.1 hg).1
    have hzn : z < nl := by omega
    have d0 : decide ((z : Int) < (nl : Int)) = true := by simp; omega
    have d1 : decide (z < nl) = true := by simp; omega
    have d2 : decide (nl ≤ z) = false := by simp; omega
    have hp := hids p (List.mem_of_getElem? hg)
    obtain ⟨gi, oi, q, rfl, hgi, hq, hc1, hc2⟩ := gv_at HH.out (k := z) hlt
    obtain rfl : p = q := by rw [hg] at hq; injection hq
    have HCL := Lib.hid (fun W (hW : Below w.heap.size w W) => (HM.out.below hW).cls c' p.1 hp)
    rw [show clD bs rs l z = classM bs rs p.1 by rw [clD, hg]] at HST ⊢
    obtain ⟨p1, p2⟩ := p
    simp only at hc1 hc2 HCL HST ⊢
    generalize classM bs rs p1 = C at *
    generalize enM bs k s C = E at *
    obtain ⟨e0, e1, e2, e3⟩ := E
    simp only [entV4] at HST ⊢
    unfold mrefV mrefA at HCL
    clear h hl hids hC hg hq HM HH hlt hp
    generalize num bs 0 4 = P0 at *
    generalize num bs 4 4 = P4 at *
    generalize num bs 8 4 = P8 at *
    generalize num bs 12 4 = P12 at *
    generalize needE bs S = NE at *
    generalize adv a c P4 = A4 at *
    generalize rs.length = L at *
    unfold wayA
    go_enter Try.func51, Try.ntmps51
    go_wp2_with fail
    obtain ⟨V, hV⟩ : ∃ V, V = ((w.alloc (Obj.cells #[.slice a n c, .int .i64 (P0 : Nat), .int .i64 (P8 : Nat), .int .i64 (P12 : Nat), .int .i64 (S : Nat), .int .i64 (NE : Nat), .int .i64 (k : Nat), .slice A4 (n - P4) (c - P4), .slice a' L c'] 42)).alloc (Obj.cells #[.int .i64 (s : Nat), .int .i64 (z : Nat), .int .i64 (st : Nat), .int .i64 (re : Nat), .int .i64 (most : Nat), .bool false, .int .i64 0] 108)).alloc (Obj.cells #[.int .i64 0, .int .i64 0, .int .i64 0, .int .i64 0] 60) := ⟨_, rfl⟩
    have hbV : Below w.heap.size w V := by rw [hV]; exact balloc (balloc (balloc (brefl w) _) _) _
    have hzV : V.heap.size = w.heap.size + 1 + 1 + 1 := by rw [hV]; simp
    have x3 : V.heap[w.heap.size]? = some (.cells #[.slice a n c, .int .i64 (P0 : Nat), .int .i64 (P8 : Nat), .int .i64 (P12 : Nat), .int .i64 (S : Nat), .int .i64 (NE : Nat), .int .i64 (k : Nat), .slice A4 (n - P4) (c - P4), .slice a' L c'] 42 (0, 0)) := by
      rw [hV, heap_push, if_neg (by simp only [World.size_alloc]; omega), heap_push, if_neg (by simp only [World.size_alloc]; omega), heap_push, if_pos rfl]
    have x4 : V.heap[w.heap.size + 1]? = some (.cells #[.int .i64 (s : Nat), .int .i64 (z : Nat), .int .i64 (st : Nat), .int .i64 (re : Nat), .int .i64 (most : Nat), .bool false, .int .i64 0] 108 (0, 0)) := by
      rw [hV, heap_push, if_neg (by simp only [World.size_alloc]; omega), heap_push, if_pos (by simp only [World.size_alloc])]
    have x6 : V.heap[w.heap.size + 1 + 1]? = some (.cells #[.int .i64 0, .int .i64 0, .int .i64 0, .int .i64 0] 60 (0, 0)) := by
      rw [hV, heap_push, if_pos (by simp only [World.size_alloc])]
    rw [← hV]
    have X3 := Lib.hid x3
    have X4 := Lib.hid x4
    have X6 := Lib.hid x6
    have q3 := fun o => cell_of_heap x3 o
    have q4 := fun o => cell_of_heap x4 o
    have HB := Lib.hid hbV
    have hc1' := (hbV.cell (p := ⟨gi, oi + z * 2, none⟩) hgi).trans hc1
    have hgV : gi < V.heap.size := by omega
    clear hV hc1 hc2 x3 x4 x6 hbV
    refine wp_region_tree (.step 0 (.step 1 (.step 2 (.step 3 (.step 4 (.step 5 (.step 6 (.step 7 (.step 8 .nil))))))))) (by kernel_rfl) (by kernel_rfl) (by kernel_rfl) (by kernel_rfl) (by intro _ _ d_ _ _ h_; cases d_ <;> first | exact h_ | (dsimp +zetaDelta only at h_ ⊢; exact h_)) (fun w' => ∃ p : Wld V [], w' = p.val) (wld_start _ _) ?_
    have hG_ := @wldC V
    (refine tree_quiet (by simp only [List.getElem?_toArray, List.getElem?_cons_succ, List.getElem?_cons_zero]; rfl) (by rfl) (by rfl) (fun K_ hK_ => ?_); go_big_quiet_op; refine hK_ _ ?_; clear hK_ K_)
    (refine tree_quiet (by simp only [List.getElem?_toArray, List.getElem?_cons_succ, List.getElem?_cons_zero]; rfl) (by rfl) (by rfl) (fun K_ hK_ => ?_); go_big_quiet_op; refine hK_ _ ?_; clear hK_ K_)
    (refine tree_quiet (by simp only [List.getElem?_toArray, List.getElem?_cons_succ, List.getElem?_cons_zero]; rfl) (by rfl) (by rfl) (fun K_ hK_ => ?_); go_big_quiet_op; refine hK_ _ ?_; clear hK_ K_)
    (refine tree_quiet (by simp only [List.getElem?_toArray, List.getElem?_cons_succ, List.getElem?_cons_zero]; rfl) (by rfl) (by rfl) (fun K_ hK_ => ?_); go_big_quiet_op; refine hK_ _ ?_; clear hK_ K_)
    (refine tree_quiet (by simp only [List.getElem?_toArray, List.getElem?_cons_succ, List.getElem?_cons_zero]; rfl) (by rfl) (by rfl) (fun K_ hK_ => ?_); go_big_quiet_op; refine hK_ _ ?_; clear hK_ K_)
    (refine tree_quiet (by simp only [List.getElem?_toArray, List.getElem?_cons_succ, List.getElem?_cons_zero]; rfl) (by rfl) (by rfl) (fun K_ hK_ => ?_); go_big_quiet_op; refine hK_ _ ?_; clear hK_ K_)
    (refine tree_quiet (by simp only [List.getElem?_toArray, List.getElem?_cons_succ, List.getElem?_cons_zero]; rfl) (by rfl) (by rfl) (fun K_ hK_ => ?_); go_big_quiet_op; refine hK_ _ ?_; clear hK_ K_)
    (refine tree_run (by simp only [List.getElem?_toArray, List.getElem?_cons_succ, List.getElem?_cons_zero]; rfl) (by rfl) (by rfl) (fun K_ hK_ => ?_); have HK_ := Lib.hid hK_; clear hK_; go_wp2_with ((go_at_call 75; (with_reducible refine (HCL.out _ (HB.out.trans (Below.mono (w := V) (by exact blw) HB.out.size))).mono ?_); rintro e w1 ⟨rfl, hb1⟩)); refine HK_.out _ _ (wld_ofA) ?_; clear HK_)
    (refine tree_quiet (by simp only [List.getElem?_toArray, List.getElem?_cons_succ, List.getElem?_cons_zero]; rfl) (by rfl) (by rfl) (fun K_ hK_ => ?_); go_big_quiet_op; refine hK_ _ ?_; clear hK_ K_)
    refine tree_nil ?_
    clear hG_
    have hb1 : Below V.heap.size V w1 := (by exact blw)
    have HB1 := Lib.hid (HB.out.trans (hb1.mono HB.out.size))
    have l6 := (Array.getElem?_eq_some_iff.1 X6.out).1
    have Y6 := Lib.hid ((hb1.block _ l6).trans X6.out)
    have Y3 := (hb1.block _ (Array.getElem?_eq_some_iff.1 X3.out).1).trans X3.out
    have Y4 := (hb1.block _ (Array.getElem?_eq_some_iff.1 X4.out).1).trans X4.out
    have l6 := (Array.getElem?_eq_some_iff.1 Y6.out).1
    have q3 := fun o => cell_of_heap Y3 o
    have q4 := fun o => cell_of_heap Y4 o
    clear Y3 Y4 hb1
    go_wp2_with (first | (go_at_call 76; (with_reducible refine (HST.out _ HB1.out).mono ?_); rintro e w2 ⟨rfl, hb2⟩; have hb12 := hb2; have p6 := (hb12.block _ l6).trans Y6.out; have q6 := (fun o => cell_of_heap p6 o); have f6 := (fun o => froz_of_heap p6 o); have l6' := (Array.getElem?_eq_some_iff.1 p6).1; have HB2 := Lib.hid (HB1.out.trans (hb12.mono HB1.out.size)); have hn6 : ¬ w2.heap.size = w.heap.size + 1 + 1 := (by omega); clear hb2 hb12 p6))
    refine bodyPost_ret (v := .tuple #[.agg #[.int .i64 (e0 : Nat), .int .i64 (e1 : Nat), .int .i64 (e2 : Nat), .int .i64 (e3 : Nat)], .bool true]) (by simp [results, Try.results51, go_sem, hAC, hAF, q6, f6, l6']) rfl ?_
    exact ⟨rfl, by have h0 := HB2.out; have h0z := h0.size; exact blw⟩
/-- Where it is behind a step. -/
def goZ (e : Ent) (stay on : Int) : Nat := (max (if e.2.1 / 2 ^ 14 % 2 = 1 then stay else on) 0).toNat
def goR (e : Ent) (re : Nat) : Nat := if e.2.1 / 2 ^ 14 % 2 = 1 then re + 1 else 0
def goO (e : Ent) (z st re most n : Nat) : Bool := if e.2.1 / 2 ^ 14 % 2 = 1 then decide (most ≤ st + 1) || decide (64 < re + 1) else decide (n ≤ z) || decide (most ≤ st + 1)
def goC (e : Ent) (z st re most n : Nat) : Nat := if e.2.1 / 2 ^ 14 % 2 = 1 then (if most ≤ st + 1 ∨ 64 < re + 1 then 4 else 0) else if n ≤ z then 0 else if most ≤ st + 1 then 4 else 0
set_option maxRecDepth 100000 in
set_option maxHeartbeats 3200000 in
theorem refgo_any (e : Ent) (s z st re most n : Nat) (stay on : Int) (w : World) (hF : e.2.1 ≤ 65535) (hst : st ≤ 1000000000) (hre : re ≤ 1000000000) :
    Calls Try.prog 53 #[.agg (wayA s z st re most false 0), entV4 e, .int .i64 (n : Nat), .int .i64 stay, .int .i64 on] w fun r w' => r = .returned (.agg (wayA e.1 (goZ e stay on) (st + 1) (goR e re) most (goO e z st re most n) (goC e z st re most n))) ∧ Below w.heap.size w w' := by
  have hAC := allocC
  have hAF := allocF
  obtain ⟨e0, F, e2, e3⟩ := e
  simp only at hF
  simp only [entV4]
  by_cases hA : F / 2 ^ 14 % 2 = 1
  · have dA : ((F : Int) / 16384 % 2 == 1) = true := by simp; omega
    rw [show goZ (e0, F, e2, e3) stay on = (max stay 0).toNat by unfold goZ; rw [if_pos hA], show goR (e0, F, e2, e3) re = re + 1 by unfold goR; rw [if_pos hA]]
    rw [show goO (e0, F, e2, e3) z st re most n = (decide (most ≤ st + 1) || decide (64 < re + 1)) by unfold goO; rw [if_pos hA], show goC (e0, F, e2, e3) z st re most n = if most ≤ st + 1 ∨ 64 < re + 1 then 4 else 0 by unfold goC; rw [if_pos hA]]
    clear hA
    by_cases h0 : stay < 0
    · have d0 : decide (stay < 0) = true := by simpa using h0
      rw [show (max stay 0).toNat = 0 by omega]
      clear h0
      by_cases hm : most ≤ st + 1
      · have d1 : decide ((most : Int) ≤ (st : Int) + 1) = true := by simp; omega
        rw [decide_eq_true hm, Bool.true_or, if_pos (.inl hm)]
        clear hm
        unfold wayA
        go_enter Try.func53, Try.ntmps53
        go_wp2_with fail
        exact bodyPost_ret (v := .agg #[.int .i64 (e0 : Nat), .int .i64 0, .int .i64 ((st : Int) + 1), .int .i64 ((re : Int) + 1), .int .i64 (most : Nat), .bool true, .int .i64 4]) (by simp [results, Try.results53, go_sem, hAC, hAF]) rfl ⟨rfl, blw⟩
      have d1 : decide ((most : Int) ≤ (st : Int) + 1) = false := by simp; omega
      by_cases hr : 64 < re + 1
      · have d2 : decide ((64 : Int) < (re : Int) + 1) = true := by simp; omega
        rw [decide_eq_true hr, Bool.or_true, if_pos (.inr hr)]
        clear hm hr
        unfold wayA
        go_enter Try.func53, Try.ntmps53
        go_wp2_with fail
        exact bodyPost_ret (v := .agg #[.int .i64 (e0 : Nat), .int .i64 0, .int .i64 ((st : Int) + 1), .int .i64 ((re : Int) + 1), .int .i64 (most : Nat), .bool true, .int .i64 4]) (by simp [results, Try.results53, go_sem, hAC, hAF]) rfl ⟨rfl, blw⟩
      have d2 : decide ((64 : Int) < (re : Int) + 1) = false := by simp; omega
      rw [decide_eq_false hm, decide_eq_false hr, Bool.or_false, if_neg (by omega)]
      clear hm hr
      unfold wayA
      go_enter Try.func53, Try.ntmps53
      go_wp2_with fail
      exact bodyPost_ret (v := .agg #[.int .i64 (e0 : Nat), .int .i64 0, .int .i64 ((st : Int) + 1), .int .i64 ((re : Int) + 1), .int .i64 (most : Nat), .bool false, .int .i64 0]) (by simp [results, Try.results53, go_sem, hAC, hAF]) rfl ⟨rfl, blw⟩
    · obtain ⟨p, rfl⟩ : ∃ p : Nat, stay = p := ⟨stay.toNat, by omega⟩
      have d0 : decide ((p : Int) < 0) = false := by simp
      rw [show (max (p : Int) 0).toNat = p by omega]
      clear h0
      by_cases hm : most ≤ st + 1
      · have d1 : decide ((most : Int) ≤ (st : Int) + 1) = true := by simp; omega
        rw [decide_eq_true hm, Bool.true_or, if_pos (.inl hm)]
        clear hm
        unfold wayA
        go_enter Try.func53, Try.ntmps53
        go_wp2_with fail
        exact bodyPost_ret (v := .agg #[.int .i64 (e0 : Nat), .int .i64 (p : Nat), .int .i64 ((st : Int) + 1), .int .i64 ((re : Int) + 1), .int .i64 (most : Nat), .bool true, .int .i64 4]) (by simp [results, Try.results53, go_sem, hAC, hAF]) rfl ⟨rfl, blw⟩
      have d1 : decide ((most : Int) ≤ (st : Int) + 1) = false := by simp; omega
      by_cases hr : 64 < re + 1
      · have d2 : decide ((64 : Int) < (re : Int) + 1) = true := by simp; omega
        rw [decide_eq_true hr, Bool.or_true, if_pos (.inr hr)]
        clear hm hr
        unfold wayA
        go_enter Try.func53, Try.ntmps53
        go_wp2_with fail
        exact bodyPost_ret (v := .agg #[.int .i64 (e0 : Nat), .int .i64 (p : Nat), .int .i64 ((st : Int) + 1), .int .i64 ((re : Int) + 1), .int .i64 (most : Nat), .bool true, .int .i64 4]) (by simp [results, Try.results53, go_sem, hAC, hAF]) rfl ⟨rfl, blw⟩
      have d2 : decide ((64 : Int) < (re : Int) + 1) = false := by simp; omega
      rw [decide_eq_false hm, decide_eq_false hr, Bool.or_false, if_neg (by omega)]
      clear hm hr
      unfold wayA
      go_enter Try.func53, Try.ntmps53
      go_wp2_with fail
      exact bodyPost_ret (v := .agg #[.int .i64 (e0 : Nat), .int .i64 (p : Nat), .int .i64 ((st : Int) + 1), .int .i64 ((re : Int) + 1), .int .i64 (most : Nat), .bool false, .int .i64 0]) (by simp [results, Try.results53, go_sem, hAC, hAF]) rfl ⟨rfl, blw⟩
  · have dA : ((F : Int) / 16384 % 2 == 1) = false := by simp; omega
    rw [show goZ (e0, F, e2, e3) stay on = (max on 0).toNat by unfold goZ; rw [if_neg hA], show goR (e0, F, e2, e3) re = 0 by unfold goR; rw [if_neg hA]]
    rw [show goO (e0, F, e2, e3) z st re most n = (decide (n ≤ z) || decide (most ≤ st + 1)) by unfold goO; rw [if_neg hA], show goC (e0, F, e2, e3) z st re most n = if n ≤ z then 0 else if most ≤ st + 1 then 4 else 0 by unfold goC; rw [if_neg hA]]
    clear hA
    by_cases h0 : on < 0
    · have d0 : decide (on < 0) = true := by simpa using h0
      rw [show (max on 0).toNat = 0 by omega]
      clear h0
      by_cases hz : n ≤ z
      · have d1 : decide ((n : Int) ≤ (z : Int)) = true := by simp; omega
        have d3 : decide (n ≤ z) = true := by simp; omega
        rw [decide_eq_true hz, Bool.true_or, if_pos hz]
        clear hz
        unfold wayA
        go_enter Try.func53, Try.ntmps53
        go_wp2_with fail
        exact bodyPost_ret (v := .agg #[.int .i64 (e0 : Nat), .int .i64 0, .int .i64 ((st : Int) + 1), .int .i64 0, .int .i64 (most : Nat), .bool true, .int .i64 0]) (by simp [results, Try.results53, go_sem, hAC, hAF]) rfl ⟨rfl, blw⟩
      have d1 : decide ((n : Int) ≤ (z : Int)) = false := by simp; omega
      have d3 : decide (n ≤ z) = false := by simp; omega
      by_cases hm : most ≤ st + 1
      · have d2 : decide ((most : Int) ≤ (st : Int) + 1) = true := by simp; omega
        rw [d3, decide_eq_true hm, Bool.or_true, if_neg hz, if_pos hm]
        clear hm hz
        unfold wayA
        go_enter Try.func53, Try.ntmps53
        go_wp2_with fail
        exact bodyPost_ret (v := .agg #[.int .i64 (e0 : Nat), .int .i64 0, .int .i64 ((st : Int) + 1), .int .i64 0, .int .i64 (most : Nat), .bool true, .int .i64 4]) (by simp [results, Try.results53, go_sem, hAC, hAF]) rfl ⟨rfl, blw⟩
      have d2 : decide ((most : Int) ≤ (st : Int) + 1) = false := by simp; omega
      rw [d3, decide_eq_false hm, Bool.or_false, if_neg hz, if_neg hm]
      clear hm hz
      unfold wayA
      go_enter Try.func53, Try.ntmps53
      go_wp2_with fail
      exact bodyPost_ret (v := .agg #[.int .i64 (e0 : Nat), .int .i64 0, .int .i64 ((st : Int) + 1), .int .i64 0, .int .i64 (most : Nat), .bool false, .int .i64 0]) (by simp [results, Try.results53, go_sem, hAC, hAF]) rfl ⟨rfl, blw⟩
    · obtain ⟨p, rfl⟩ : ∃ p : Nat, on = p := ⟨on.toNat, by omega⟩
      have d0 : decide ((p : Int) < 0) = false := by simp
      rw [show (max (p : Int) 0).toNat = p by omega]
      clear h0
      by_cases hz : n ≤ z
      · have d1 : decide ((n : Int) ≤ (z : Int)) = true := by simp; omega
        have d3 : decide (n ≤ z) = true := by simp; omega
        rw [decide_eq_true hz, Bool.true_or, if_pos hz]
        clear hz
        unfold wayA
        go_enter Try.func53, Try.ntmps53
        go_wp2_with fail
        exact bodyPost_ret (v := .agg #[.int .i64 (e0 : Nat), .int .i64 (p : Nat), .int .i64 ((st : Int) + 1), .int .i64 0, .int .i64 (most : Nat), .bool true, .int .i64 0]) (by simp [results, Try.results53, go_sem, hAC, hAF]) rfl ⟨rfl, blw⟩
      have d1 : decide ((n : Int) ≤ (z : Int)) = false := by simp; omega
      have d3 : decide (n ≤ z) = false := by simp; omega
      by_cases hm : most ≤ st + 1
      · have d2 : decide ((most : Int) ≤ (st : Int) + 1) = true := by simp; omega
        rw [d3, decide_eq_true hm, Bool.or_true, if_neg hz, if_pos hm]
        clear hm hz
        unfold wayA
        go_enter Try.func53, Try.ntmps53
        go_wp2_with fail
        exact bodyPost_ret (v := .agg #[.int .i64 (e0 : Nat), .int .i64 (p : Nat), .int .i64 ((st : Int) + 1), .int .i64 0, .int .i64 (most : Nat), .bool true, .int .i64 4]) (by simp [results, Try.results53, go_sem, hAC, hAF]) rfl ⟨rfl, blw⟩
      have d2 : decide ((most : Int) ≤ (st : Int) + 1) = false := by simp; omega
      rw [d3, decide_eq_false hm, Bool.or_false, if_neg hz, if_neg hm]
      clear hm hz
      unfold wayA
      go_enter Try.func53, Try.ntmps53
      go_wp2_with fail
      exact bodyPost_ret (v := .agg #[.int .i64 (e0 : Nat), .int .i64 (p : Nat), .int .i64 ((st : Int) + 1), .int .i64 0, .int .i64 (most : Nat), .bool false, .int .i64 0]) (by simp [results, Try.results53, go_sem, hAC, hAF]) rfl ⟨rfl, blw⟩
end Go.Proofs.Ytcegoenlajkgfaa
end
