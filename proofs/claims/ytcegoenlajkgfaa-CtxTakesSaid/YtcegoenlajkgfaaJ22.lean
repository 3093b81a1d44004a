/- Joined from: CSpk. -/
import Derived.Test.YtcegoenlajkgfaaJ21
section

/- What law 15 asks first: a mark, and a change there. No condition. -/
namespace Go.Proofs.Ytcegoenlajkgfaa
open Go.RowKit Go.Lib

def planK : PlanL := ⟨[4, 5], [[0, 0, 0, 0, 1, 2], [0, 0, 0, 0, 1, 2]], [(0, 0, 65535, 65535), (0, 32768, 65535, 65535), (0, 0, 0, 65535)], 2⟩
def bytesK : List UInt8 := [0, 0, 0, 6, 0, 0, 0, 20, 0, 0, 0, 30, 0, 0, 0, 54, 0, 0, 0, 78, 0, 8, 0, 0, 0, 2, 0, 4, 0, 5, 0, 0, 0, 0, 0, 0, 0, 0, 0, 1, 0, 2, 0, 0, 0, 0, 0, 0, 0, 0, 0, 1, 0, 2, 0, 0, 0, 0, 255, 255, 255, 255, 0, 0, 128, 0, 255, 255, 255, 255, 0, 0, 0, 0, 0, 0, 255, 255, 0, 0, 0, 4, 0, 8, 0, 0, 0, 1, 0, 7]
theorem planK_bytes : ctxB planK [[7]] = bytesK := by decide
def rsK : List RP := rowsT 0 2 6 2
def qK : List RP := rowsT 0 1 6 2
theorem okK : COk bytesK 9 rsK 2 [qK] := by
  refine ⟨⟨by decide, by decide, by decide, ?_, by decide, by decide, ⟨by unfold MClosed; decide, fun S' h => h.1⟩, by decide, by decide⟩, by decide, by decide, by decide +kernel, fun i q h => ?_⟩
  · refine ⟨.eight (by decide) (by decide) (by decide), ?_⟩
    exact (ok_rowsT _ _ _ _ _ (by decide)).2 (by decide)
  · match i, h with
    | 0, h =>
      simp at h
      subst h
      refine ⟨by decide, by decide, ⟨.eight (by decide) (by decide) (by decide), ?_⟩⟩
      exact (ok_rowsT _ _ _ _ _ (by decide)).2 (by decide)
    | n + 1, h => simp at h
theorem runK : (ctxD bytesK rsK (lkC bytesK [qK]) [(0, 0), (1, 1)]).1.1 = [(7, 0), (1, 1)] ∧ (ctxD bytesK rsK (lkC bytesK [qK]) [(0, 0), (1, 1)]).2.2 = 0 := by
  constructor <;> decide +kernel
theorem writeK (aC aR aE aS : Option Addr) (rv sv : List Value) (cC cR cE cS : Nat) (w : World) (h : PlanHas w planK aC aR rv aE) (hS : SubsHas w aS [[7]] sv) :
    Calls Try.prog 14 #[.agg #[.slice aC 2 cC, .slice aR 2 cR, .slice aE 3 cE, .int .u8 2], .slice aS 1 cS] w fun e w' => ∃ a' c', e = .returned (.slice a' 90 c') ∧ w'.ownsRow w.heap.size 5 1 (.slice a' 90 c') 90 (bytesV bytesK) ∧ 90 ≤ c' ∧ c' ≤ maxLen ∧ Below w.heap.size w w' := by
  have := write15_any planK aC aR aE rv cC cR cE aS 1 cS [[7]] sv w h (by decide) (by decide) (by decide) (by
    intro e he
    simp only [planK, List.mem_cons, List.not_mem_nil, or_false] at he
    rcases he with rfl | rfl | rfl <;> · unfold wfI; decide) hS rfl (by decide) (by decide) (by decide)
  rw [planK_bytes] at this
  refine this.mono ?_
  rintro e w' ⟨a', c', h1, h2, h3, h4, _, h6⟩
  exact ⟨a', c', h1, h2, h3, h4, h6⟩
theorem runK_any (B gt gl : Nat) (a : Option Addr) (c : Nat) (w : World) {Bm : Nat} (hT : CIs Bm gt bytesK rsK 2 [qK] w) (hG : GIs B gl a c [(0, 0), (1, 1)] w) (hB : B ≤ w.heap.size) :
    Calls Try.prog 18 #[.pointer (some ⟨gt, 0, none⟩), .pointer (some ⟨gl, 0, none⟩)] w fun e w' => e = .returned (.int .i64 0) ∧ (∃ a' c', GIs B gl a' c' [(7, 0), (1, 1)] w') ∧ Below B w w' := by
  refine (crun_any Bm gt bytesK 9 rsK 2 [qK] B gl a c [(0, 0), (1, 1)] w hT okK (by decide) (by decide) hG hB (by unfold IdsOk; decide) (by decide)).mono ?_
  rintro e w' ⟨rfl, ⟨a', c', hg, _⟩, hk⟩
  rw [runK.1] at hg
  rw [runK.2]
  exact ⟨rfl, ⟨a', c', hg⟩, hk.below⟩
set_option maxRecDepth 100000 in
set_option maxHeartbeats 6400000 in
theorem speaks15_any (w : World) : Calls Try.prog 12 #[] w fun e w' => e = .returned (.bool true) ∧ Below w.heap.size w w' := by
  have hAC := allocC
  have hAF := allocF
  go_enter Try.func12, Try.ntmps12
  go_wp2_with fail
  obtain ⟨w1, h1⟩ : ∃ w1, w1 = w.alloc (Obj.cells #[.int .u8 4, .int .u8 5] 5) := ⟨_, rfl⟩
  obtain ⟨w2, h2⟩ : ∃ w2, w2 = w1.alloc (Obj.cells #[.int .u8 0, .int .u8 0, .int .u8 0, .int .u8 0, .int .u8 1, .int .u8 2] 5) := ⟨_, rfl⟩
  obtain ⟨w3, h3⟩ : ∃ w3, w3 = w2.alloc (Obj.cells #[.int .u8 0, .int .u8 0, .int .u8 0, .int .u8 0, .int .u8 1, .int .u8 2] 5) := ⟨_, rfl⟩
  obtain ⟨w4, h4⟩ : ∃ w4, w4 = w3.alloc (Obj.cells #[.slice (some ⟨w1.heap.size, 0, none⟩) 6 6, .slice (some ⟨w2.heap.size, 0, none⟩) 6 6] 22) := ⟨_, rfl⟩
  obtain ⟨w5, h5⟩ : ∃ w5, w5 = w4.alloc (Obj.cells #[.int .i64 0, .int .i64 0, .int .i64 65535, .int .i64 65535, .int .i64 0, .int .i64 32768, .int .i64 65535, .int .i64 65535, .int .i64 0, .int .i64 0, .int .i64 0, .int .i64 65535] 60) := ⟨_, rfl⟩
  obtain ⟨w6, h6⟩ : ∃ w6, w6 = w5.alloc (Obj.cells #[.slice (some ⟨w.heap.size, 0, none⟩) 2 2, .slice (some ⟨w3.heap.size, 0, none⟩) 2 2, .slice (some ⟨w4.heap.size, 0, none⟩) 3 3, .int .u8 2] 26) := ⟨_, rfl⟩
  obtain ⟨w7, h7⟩ : ∃ w7, w7 = w6.alloc (Obj.cells #[.int .u16 7] 63) := ⟨_, rfl⟩
  obtain ⟨w8, h8⟩ : ∃ w8, w8 = w7.alloc (Obj.cells #[.slice (some ⟨w6.heap.size, 0, none⟩) 1 1] 62) := ⟨_, rfl⟩
  have z1 : w1.heap.size = w.heap.size + 1 := by rw [h1]; simp
  have z2 : w2.heap.size = w1.heap.size + 1 := by rw [h2]; simp
  have z3 : w3.heap.size = w2.heap.size + 1 := by rw [h3]; simp
  have z4 : w4.heap.size = w3.heap.size + 1 := by rw [h4]; simp
  have z5 : w5.heap.size = w4.heap.size + 1 := by rw [h5]; simp
  have z6 : w6.heap.size = w5.heap.size + 1 := by rw [h6]; simp
  have z7 : w7.heap.size = w6.heap.size + 1 := by rw [h7]; simp
  have b1 : Below w.heap.size w w1 := by rw [h1]; exact balloc (brefl w) _
  have b2 : Below w1.heap.size w1 w2 := by rw [h2]; exact balloc (brefl w1) _
  have b3 : Below w2.heap.size w2 w3 := by rw [h3]; exact balloc (brefl w2) _
  have b4 : Below w3.heap.size w3 w4 := by rw [h4]; exact balloc (brefl w3) _
  have b5 : Below w4.heap.size w4 w5 := by rw [h5]; exact balloc (brefl w4) _
  have b6 : Below w5.heap.size w5 w6 := by rw [h6]; exact balloc (brefl w5) _
  have b7 : Below w6.heap.size w6 w7 := by rw [h7]; exact balloc (brefl w6) _
  have b8 : Below w7.heap.size w7 w8 := by rw [h8]; exact balloc (brefl w7) _
  have b68 : Below w6.heap.size w6 w8 := b7.trans (b8.mono b7.size)
  have b58 : Below w5.heap.size w5 w8 := b6.trans (b68.mono b6.size)
  have b48 : Below w4.heap.size w4 w8 := b5.trans (b58.mono b5.size)
  have b38 : Below w3.heap.size w3 w8 := b4.trans (b48.mono b4.size)
  have b28 : Below w2.heap.size w2 w8 := b3.trans (b38.mono b3.size)
  have b18 : Below w1.heap.size w1 w8 := b2.trans (b28.mono b2.size)
  have HP := Lib.hid (show PlanHas w8 planK (some ⟨w.heap.size, 0, none⟩) (some ⟨w3.heap.size, 0, none⟩) [.slice (some ⟨w1.heap.size, 0, none⟩) 6 6, .slice (some ⟨w2.heap.size, 0, none⟩) 6 6] (some ⟨w4.heap.size, 0, none⟩) from ⟨by
      have := has_alloc w #[.int .u8 4, .int .u8 5] 5
      rw [← h1] at this
      exact this.below b18, by
      have := has_alloc w3 #[.slice (some ⟨w1.heap.size, 0, none⟩) 6 6, .slice (some ⟨w2.heap.size, 0, none⟩) 6 6] 22
      rw [← h4] at this
      exact this.below b48, rfl, by
      have g2 := has_alloc w1 #[.int .u8 0, .int .u8 0, .int .u8 0, .int .u8 0, .int .u8 1, .int .u8 2] 5
      have g3 := has_alloc w2 #[.int .u8 0, .int .u8 0, .int .u8 0, .int .u8 0, .int .u8 1, .int .u8 2] 5
      rw [← h2] at g2
      rw [← h3] at g3
      intro i r hr
      match i, hr with
      | 0, hr => simp [planK] at hr; subst hr; exact ⟨_, 6, rfl, g2.below b28⟩
      | 1, hr => simp [planK] at hr; subst hr; exact ⟨_, 6, rfl, g3.below b38⟩
      | n + 2, hr => simp [planK] at hr, by
      have := has_alloc w4 #[.int .i64 0, .int .i64 0, .int .i64 65535, .int .i64 65535, .int .i64 0, .int .i64 32768, .int .i64 65535, .int .i64 65535, .int .i64 0, .int .i64 0, .int .i64 0, .int .i64 65535] 60
      rw [← h5] at this
      exact this.below b58⟩)
  have HSB := Lib.hid (show SubsHas w8 (some ⟨w7.heap.size, 0, none⟩) [[7]] [.slice (some ⟨w6.heap.size, 0, none⟩) 1 1] from ⟨by
      have := has_alloc w7 #[.slice (some ⟨w6.heap.size, 0, none⟩) 1 1] 62
      rw [← h8] at this
      exact this, rfl, by
      have g := has_alloc w6 #[.int .u16 7] 63
      rw [← h7] at g
      intro i r hr
      match i, hr with
      | 0, hr => simp at hr; subst hr; exact ⟨_, 1, rfl, g.below b8⟩
      | n + 1, hr => simp at hr⟩)
  have HB8 := Lib.hid (show Below w.heap.size w w8 from b1.trans (b18.mono b1.size))
  rw [← h1, ← h2, ← h3, ← z1, ← z2, ← z3, ← h4, ← z4, ← h5, ← h6, ← z5, ← z6, ← h7, ← z7, ← h8]
  clear h1 h2 h3 h4 h5 h6 h7 h8 b1 b2 b3 b4 b5 b6 b7 b8 b68 b58 b48 b38 b28 b18 z1 z2 z3 z4 z5 z6 z7
  have HW := Lib.hid (writeK (some ⟨w.heap.size, 0, none⟩) (some ⟨w3.heap.size, 0, none⟩) (some ⟨w4.heap.size, 0, none⟩) (some ⟨w7.heap.size, 0, none⟩) [.slice (some ⟨w1.heap.size, 0, none⟩) 6 6, .slice (some ⟨w2.heap.size, 0, none⟩) 6 6] [.slice (some ⟨w6.heap.size, 0, none⟩) 1 1] 2 2 3 1 w8 HP.out HSB.out)
  have e01 : newG [0, 1] = [(0, 0), (1, 1)] := by rfl
  refine HW.out.mono ?_
  rintro e w9 ⟨a9, c9, rfl, ho9, k9, k99, hb9⟩
  have HH9 := Lib.hid (has_of_owns ho9)
  have HB9 := Lib.hid (HB8.out.trans (hb9.mono HB8.out.size))
  clear ho9 hb9
  go_wp2_with (first
    | (go_at_call 15; (with_reducible refine (cread_some a9 90 c9 bytesK 9 9 rfl rsK 2 [qK] w9 HH9.out rfl k9 k99 (by decide) (by decide) okK).mono ?_); rintro e w10 ⟨gt, rfl, hT, hb10⟩; have HT := Lib.hid hT; have HB10 := Lib.hid (HB9.out.trans (hb10.mono HB9.out.size)); clear hT hb10)
    | (go_at_call 17; (with_reducible refine (gnew_any (some ⟨w10.heap.size, 0, none⟩) 2 2 [0, 1] (w10.alloc (.cells #[.int .i64 0, .int .i64 1] 3)) (has_alloc w10 _ _) rfl (by decide)).mono ?_); rintro e w11 ⟨gl, a11, c11, rfl, hG, hgl, hb11⟩; rw [e01] at hG; have hb78 := (balloc (brefl w10) (.cells #[.int .i64 0, .int .i64 1] 3)).trans (hb11.mono (by simp)); have HT11 := Lib.hid (HT.out.below hb78); have HB11 := Lib.hid (HB10.out.trans (hb78.mono HB10.out.size)); have HG11 := Lib.hid (hG.mono (show w.heap.size ≤ _ from by have := HB10.out.size; simp only [World.size_alloc]; omega)); have HX := Lib.hid (runK_any w.heap.size gt gl a11 c11 w11 HT11.out HG11.out HB11.out.size); clear hG hb11 hb78 hgl)
    | (go_at_call 18; (with_reducible refine HX.out.mono ?_); rintro e w12 ⟨rfl, ⟨a12, c12, hG⟩, hb12⟩; have HG12 := Lib.hid hG; have HB12 := Lib.hid (HB11.out.trans hb12); clear hG hb12)
    | (go_at_call 21; (with_reducible refine (gglyphs_any w.heap.size gl a12 c12 _ w12 HG12.out (by decide)).mono ?_); rintro e w13 ⟨a13, c13, rfl, ho, _, _, _, hb13⟩; have HH13 := Lib.hid (has_of_owns ho); have HB13 := Lib.hid (HB12.out.trans (hb13.mono HB12.out.size)); clear ho hb13)
    | (go_at_call 22; (refine (refSameG_any a13 (some ⟨w13.heap.size, 0, none⟩) 2 c13 2 2 [(7, 0), (1, 1)] [(7, 0), (1, 1)] (w13.alloc (.cells #[.int .i64 7, .int .i64 0, .int .i64 1, .int .i64 1] 57)) (HH13.out.below (balloc (brefl w13) _)) rfl (has_alloc w13 #[.int .i64 7, .int .i64 0, .int .i64 1, .int .i64 1] 57) rfl (by decide) (by decide)).mono ?_); rintro e w14 ⟨rfl, hb14⟩; rw [decide_eq_true rfl]; have HB14 := Lib.hid (HB13.out.trans ((balloc (brefl w13) (.cells #[.int .i64 7, .int .i64 0, .int .i64 1, .int .i64 1] 57)).trans (hb14.mono (by simp)) |>.mono HB13.out.size)); clear hb14))
  go_ret
  exact ⟨rfl, HB14.out⟩
end Go.Proofs.Ytcegoenlajkgfaa
end
