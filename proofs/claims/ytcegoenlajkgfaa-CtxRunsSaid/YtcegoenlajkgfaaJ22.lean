/- Joined from: CSpk KRun COpen. -/
import Derived.Test.YtcegoenlajkgfaaJ21
import Derived.Test.YtcegoenlajkgfaaJ18
import Derived.ChangeSame
import Derived.Test.YtcegoenlajkgfaaJ15
section

/- What law 15 asks first: a mark, and a change there. No condition. -/
namespace Go.Proofs.Ytcegoenlajkgfaa
open Go.RowKit Go.Lib

def planK : PlanL := ⟨[4, 5], [[0, 0, 0, 0, 1, 2], [0, 0, 0, 0, 1, 2]], [(0, 0, 65535, 65535), (0, 32768, 65535, 65535), (0, 0, 0, 65535)], 2⟩
def bytesK : List UInt8 := [0, 0, 0, 6, 0, 0, 0, 20, 0, 0, 0, 30, 0, 0, 0, 54, 0, 0, 0, 78, 0, 8, 0, 0, 0, 2, 0, 4, 0, 5, 0, 0, 0, 0, 0, 0, 0, 0, 0, 1, 0, 2, 0, 0, 0, 0, 0, 0, 0, 0, 0, 1, 0, 2, 0, 0, 0, 0, 255, 255, 255, 255, 0, 0, 128, 0, 255, 255, 255, 255, 0, 0, 0, 0, 0, 0, 255, 255, 0, 0, 0, 4, 0, 8, 0, 0, 0, 1, 0, 7]
theorem planK_bytes : ctxB planK [[7]] = bytesK := by decide
def rsK : List RP := rowsT 0 2 6 2
def qK : List RP := rowsT 0 1 6 2
theorem okK : COk bytesK 9 rsK 2 [qK] := by
  refine ⟨⟨by decide, by decide, by decide, ?_, by decide, by decide, ⟨by unfold MClosed; decide, fun S' h => h.1⟩, by decide, by decide⟩, by decide, by decide, by decide +kernel, fun i q h => ?_⟩
  · refine ⟨.eight (by decide) (by decide) (by decide), ?_⟩
    exact (ok_rowsT _ _ _ _ _ (by decide)).2 (by decide)
  · match i, h with
    | 0, h =>
      simp at h
      subst h
      refine ⟨by decide, by decide, ⟨.eight (by decide) (by decide) (by decide), ?_⟩⟩
      exact (ok_rowsT _ _ _ _ _ (by decide)).2 (by decide)
    | n + 1, h => simp at h
theorem runK : (ctxD bytesK rsK (lkC bytesK [qK]) [(0, 0), (1, 1)]).1.1 = [(7, 0), (1, 1)] ∧ (ctxD bytesK rsK (lkC bytesK [qK]) [(0, 0), (1, 1)]).2.2 = 0 := by
  constructor <;> decide +kernel
theorem writeK (aC aR aE aS : Option Addr) (rv sv : List Value) (cC cR cE cS : Nat) (w : World) (h : PlanHas w planK aC aR rv aE) (hS : SubsHas w aS [[7]] sv) :
    Calls Try.prog 14 #[.agg #[.slice aC 2 cC, .slice aR 2 cR, .slice aE 3 cE, .int .u8 2], .slice aS 1 cS] w fun e w' => ∃ a' c', e = .returned (.slice a' 90 c') ∧ w'.ownsRow w.heap.size 5 1 (.slice a' 90 c') 90 (bytesV bytesK) ∧ 90 ≤ c' ∧ c' ≤ maxLen ∧ Below w.heap.size w w' := by
  have := write15_any planK aC aR aE rv cC cR cE aS 1 cS [[7]] sv w h (by decide) (by decide) (by decide) (by
    intro e he
    simp only [planK, List.mem_cons, List.not_mem_nil, or_false] at he
    rcases he with rfl | rfl | rfl <;> · unfold wfI; decide) hS rfl (by decide) (by decide) (by decide)
  rw [planK_bytes] at this
  refine this.mono ?_
  rintro e w' ⟨a', c', h1, h2, h3, h4, _, h6⟩
  exact ⟨a', c', h1, h2, h3, h4, h6⟩
theorem runK_any (B gt gl : Nat) (a : Option Addr) (c : Nat) (w : World) {Bm : Nat} (hT : CIs Bm gt bytesK rsK 2 [qK] w) (hG : GIs B gl a c [(0, 0), (1, 1)] w) (hB : B ≤ w.heap.size) :
    Calls Try.prog 18 #[.pointer (some ⟨gt, 0, none⟩), .pointer (some ⟨gl, 0, none⟩)] w fun e w' => e = .returned (.int .i64 0) ∧ (∃ a' c', GIs B gl a' c' [(7, 0), (1, 1)] w') ∧ Below B w w' := by
  refine (crun_any Bm gt bytesK 9 rsK 2 [qK] B gl a c [(0, 0), (1, 1)] w hT okK (by decide) (by decide) hG hB (by unfold IdsOk; decide) (by decide)).mono ?_
  rintro e w' ⟨rfl, ⟨a', c', hg, _⟩, hk⟩
  rw [runK.1] at hg
  rw [runK.2]
  exact ⟨rfl, ⟨a', c', hg⟩, hk.below⟩
set_option maxRecDepth 100000 in
set_option maxHeartbeats 6400000 in
theorem speaks15_any (w : World) : Calls Try.prog 12 #[] w fun e w' => e = .returned (.bool true) ∧ Below w.heap.size w w' := by
  have hAC := allocC
  have hAF := allocF
  go_enter Try.func12, Try.ntmps12
  go_wp2_with fail
  obtain ⟨w1, h1⟩ : ∃ w1, w1 = w.alloc (Obj.cells #[.int .u8 4, .int .u8 5] 5) := ⟨_, rfl⟩
  obtain ⟨w2, h2⟩ : ∃ w2, w2 = w1.alloc (Obj.cells #[.int .u8 0, .int .u8 0, .int .u8 0, .int .u8 0, .int .u8 1, .int .u8 2] 5) := ⟨_, rfl⟩
  obtain ⟨w3, h3⟩ : ∃ w3, w3 = w2.alloc (Obj.cells #[.int .u8 0, .int .u8 0, .int .u8 0, .int .u8 0, .int .u8 1, .int .u8 2] 5) := ⟨_, rfl⟩
  obtain ⟨w4, h4⟩ : ∃ w4, w4 = w3.alloc (Obj.cells #[.slice (some ⟨w1.heap.size, 0, none⟩) 6 6, .slice (some ⟨w2.heap.size, 0, none⟩) 6 6] 22) := ⟨_, rfl⟩
  obtain ⟨w5, h5⟩ : ∃ w5, w5 = w4.alloc (Obj.cells #[.int .i64 0, .int .i64 0, .int .i64 65535, .int .i64 65535, .int .i64 0, .int .i64 32768, .int .i64 65535, .int .i64 65535, .int .i64 0, .int .i64 0, .int .i64 0, .int .i64 65535] 60) := ⟨_, rfl⟩
  obtain ⟨w6, h6⟩ : ∃ w6, w6 = w5.alloc (Obj.cells #[.slice (some ⟨w.heap.size, 0, none⟩) 2 2, .slice (some ⟨w3.heap.size, 0, none⟩) 2 2, .slice (some ⟨w4.heap.size, 0, none⟩) 3 3, .int .u8 2] 26) := ⟨_, rfl⟩
  obtain ⟨w7, h7⟩ : ∃ w7, w7 = w6.alloc (Obj.cells #[.int .u16 7] 63) := ⟨_, rfl⟩
  obtain ⟨w8, h8⟩ : ∃ w8, w8 = w7.alloc (Obj.cells #[.slice (some ⟨w6.heap.size, 0, none⟩) 1 1] 62) := ⟨_, rfl⟩
  have z1 : w1.heap.size = w.heap.size + 1 := by rw [h1]; simp
  have z2 : w2.heap.size = w1.heap.size + 1 := by rw [h2]; simp
  have z3 : w3.heap.size = w2.heap.size + 1 := by rw [h3]; simp
  have z4 : w4.heap.size = w3.heap.size + 1 := by rw [h4]; simp
  have z5 : w5.heap.size = w4.heap.size + 1 := by rw [h5]; simp
  have z6 : w6.heap.size = w5.heap.size + 1 := by rw [h6]; simp
  have z7 : w7.heap.size = w6.heap.size + 1 := by rw [h7]; simp
  have b1 : Below w.heap.size w w1 := by rw [h1]; exact balloc (brefl w) _
  have b2 : Below w1.heap.size w1 w2 := by rw [h2]; exact balloc (brefl w1) _
  have b3 : Below w2.heap.size w2 w3 := by rw [h3]; exact balloc (brefl w2) _
  have b4 : Below w3.heap.size w3 w4 := by rw [h4]; exact balloc (brefl w3) _
  have b5 : Below w4.heap.size w4 w5 := by rw [h5]; exact balloc (brefl w4) _
  have b6 : Below w5.heap.size w5 w6 := by rw [h6]; exact balloc (brefl w5) _
  have b7 : Below w6.heap.size w6 w7 := by rw [h7]; exact balloc (brefl w6) _
  have b8 : Below w7.heap.size w7 w8 := by rw [h8]; exact balloc (brefl w7) _
  have b68 : Below w6.heap.size w6 w8 := b7.trans (b8.mono b7.size)
  have b58 : Below w5.heap.size w5 w8 := b6.trans (b68.mono b6.size)
  have b48 : Below w4.heap.size w4 w8 := b5.trans (b58.mono b5.size)
  have b38 : Below w3.heap.size w3 w8 := b4.trans (b48.mono b4.size)
  have b28 : Below w2.heap.size w2 w8 := b3.trans (b38.mono b3.size)
  have b18 : Below w1.heap.size w1 w8 := b2.trans (b28.mono b2.size)
  have HP := Lib.hid (show PlanHas w8 planK (some ⟨w.heap.size, 0, none⟩) (some ⟨w3.heap.size, 0, none⟩) [.slice (some ⟨w1.heap.size, 0, none⟩) 6 6, .slice (some ⟨w2.heap.size, 0, none⟩) 6 6] (some ⟨w4.heap.size, 0, none⟩) from ⟨by
      have := has_alloc w #[.int .u8 4, .int .u8 5] 5
      rw [← h1] at this
      exact this.below b18, by
      have := has_alloc w3 #[.slice (some ⟨w1.heap.size, 0, none⟩) 6 6, .slice (some ⟨w2.heap.size, 0, none⟩) 6 6] 22
      rw [← h4] at this
      exact this.below b48, rfl, by
      have g2 := has_alloc w1 #[.int .u8 0, .int .u8 0, .int .u8 0, .int .u8 0, .int .u8 1, .int .u8 2] 5
      have g3 := has_alloc w2 #[.int .u8 0, .int .u8 0, .int .u8 0, .int .u8 0, .int .u8 1, .int .u8 2] 5
      rw [← h2] at g2
      rw [← h3] at g3
      intro i r hr
      match i, hr with
      | 0, hr => simp [planK] at hr; subst hr; exact ⟨_, 6, rfl, g2.below b28⟩
      | 1, hr => simp [planK] at hr; subst hr; exact ⟨_, 6, rfl, g3.below b38⟩
      | n + 2, hr => simp [planK] at hr, by
      have := has_alloc w4 #[.int .i64 0, .int .i64 0, .int .i64 65535, .int .i64 65535, .int .i64 0, .int .i64 32768, .int .i64 65535, .int .i64 65535, .int .i64 0, .int .i64 0, .int .i64 0, .int .i64 65535] 60
      rw [← h5] at this
      exact this.below b58⟩)
  have HSB := Lib.hid (show SubsHas w8 (some ⟨w7.heap.size, 0, none⟩) [[7]] [.slice (some ⟨w6.heap.size, 0, none⟩) 1 1] from ⟨by
      have := has_alloc w7 #[.slice (some ⟨w6.heap.size, 0, none⟩) 1 1] 62
      rw [← h8] at this
      exact this, rfl, by
      have g := has_alloc w6 #[.int .u16 7] 63
      rw [← h7] at g
      intro i r hr
      match i, hr with
      | 0, hr => simp at hr; subst hr; exact ⟨_, 1, rfl, g.below b8⟩
      | n + 1, hr => simp at hr⟩)
  have HB8 := Lib.hid (show Below w.heap.size w w8 from b1.trans (b18.mono b1.size))
  rw [← h1, ← h2, ← h3, ← z1, ← z2, ← z3, ← h4, ← z4, ← h5, ← h6, ← z5, ← z6, ← h7, ← z7, ← h8]
  clear h1 h2 h3 h4 h5 h6 h7 h8 b1 b2 b3 b4 b5 b6 b7 b8 b68 b58 b48 b38 b28 b18 z1 z2 z3 z4 z5 z6 z7
  have HW := Lib.hid (writeK (some ⟨w.heap.size, 0, none⟩) (some ⟨w3.heap.size, 0, none⟩) (some ⟨w4.heap.size, 0, none⟩) (some ⟨w7.heap.size, 0, none⟩) [.slice (some ⟨w1.heap.size, 0, none⟩) 6 6, .slice (some ⟨w2.heap.size, 0, none⟩) 6 6] [.slice (some ⟨w6.heap.size, 0, none⟩) 1 1] 2 2 3 1 w8 HP.out HSB.out)
  have e01 : newG [0, 1] = [(0, 0), (1, 1)] := by rfl
  refine HW.out.mono ?_
  rintro e w9 ⟨a9, c9, rfl, ho9, k9, k99, hb9⟩
  have HH9 := Lib.hid (has_of_owns ho9)
  have HB9 := Lib.hid (HB8.out.trans (hb9.mono HB8.out.size))
  clear ho9 hb9
  go_wp2_with (first
    | (go_at_call 15; (with_reducible refine (cread_some a9 90 c9 bytesK 9 9 rfl rsK 2 [qK] w9 HH9.out rfl k9 k99 (by decide) (by decide) okK).mono ?_); rintro e w10 ⟨gt, rfl, hT, hb10⟩; have HT := Lib.hid hT; have HB10 := Lib.hid (HB9.out.trans (hb10.mono HB9.out.size)); clear hT hb10)
    | (go_at_call 17; (with_reducible refine (gnew_any (some ⟨w10.heap.size, 0, none⟩) 2 2 [0, 1] (w10.alloc (.cells #[.int .i64 0, .int .i64 1] 3)) (has_alloc w10 _ _) rfl (by decide)).mono ?_); rintro e w11 ⟨gl, a11, c11, rfl, hG, hgl, hb11⟩; rw [e01] at hG; have hb78 := (balloc (brefl w10) (.cells #[.int .i64 0, .int .i64 1] 3)).trans (hb11.mono (by simp)); have HT11 := Lib.hid (HT.out.below hb78); have HB11 := Lib.hid (HB10.out.trans (hb78.mono HB10.out.size)); have HG11 := Lib.hid (hG.mono (show w.heap.size ≤ _ from by have := HB10.out.size; simp only [World.size_alloc]; omega)); have HX := Lib.hid (runK_any w.heap.size gt gl a11 c11 w11 HT11.out HG11.out HB11.out.size); clear hG hb11 hb78 hgl)
    | (go_at_call 18; (with_reducible refine HX.out.mono ?_); rintro e w12 ⟨rfl, ⟨a12, c12, hG⟩, hb12⟩; have HG12 := Lib.hid hG; have HB12 := Lib.hid (HB11.out.trans hb12); clear hG hb12)
    | (go_at_call 21; (with_reducible refine (gglyphs_any w.heap.size gl a12 c12 _ w12 HG12.out (by decide)).mono ?_); rintro e w13 ⟨a13, c13, rfl, ho, _, _, _, hb13⟩; have HH13 := Lib.hid (has_of_owns ho); have HB13 := Lib.hid (HB12.out.trans (hb13.mono HB12.out.size)); clear ho hb13)
    | (go_at_call 22; (refine (refSameG_any a13 (some ⟨w13.heap.size, 0, none⟩) 2 c13 2 2 [(7, 0), (1, 1)] [(7, 0), (1, 1)] (w13.alloc (.cells #[.int .i64 7, .int .i64 0, .int .i64 1, .int .i64 1] 57)) (HH13.out.below (balloc (brefl w13) _)) rfl (has_alloc w13 #[.int .i64 7, .int .i64 0, .int .i64 1, .int .i64 1] 57) rfl (by decide) (by decide)).mono ?_); rintro e w14 ⟨rfl, hb14⟩; rw [decide_eq_true rfl]; have HB14 := Lib.hid (HB13.out.trans ((balloc (brefl w13) (.cells #[.int .i64 7, .int .i64 0, .int .i64 1, .int .i64 1] 57)).trans (hb14.mono (by simp)) |>.mono HB13.out.size)); clear hb14))
  go_ret
  exact ⟨rfl, HB14.out⟩
theorem newG_idsC {ids : List Int} (h : ∀ z ∈ ids, -9223372036854775808 ≤ z ∧ z ≤ 9223372036854775807) : IdsOk (newG ids) := by
  intro p hp
  obtain ⟨k, hk⟩ := List.mem_iff_getElem?.1 hp
  rw [newG_get] at hk
  cases hz : ids[k]? with
  | none => rw [hz] at hk; cases hk
  | some z =>
    rw [hz] at hk
    cases hk
    exact h z (List.mem_of_getElem? hz)
theorem ctxD_length (bs : List UInt8) (rs : List RP) (lk : Nat → Int → Nat × Bool) (l : List (Int × Int)) : (ctxD bs rs lk l).1.1.length = l.length := by
  unfold ctxD
  exact runD_keeps (fun x : KX => x.1.length = l.length) (fun x z e h => by show (lineC lk x.1 x.2 z e.2.2.1 e.2.2.2).length = l.length; rw [lineC_length]; exact h) _ _ _ _ _ _ rfl
end Go.Proofs.Ytcegoenlajkgfaa
end
section

/- The document's subtable of layer 15 beside the code's: what both read of bytes, and what their lookups give; clusters stay. Conditions: as each says. -/
namespace Go.Proofs.Ytcegoenlajkgfaa
open Go.RowKit Go.Lib


theorem SubsIs.keptLt {own : Nat → Nat → Prop} {glyphs : Nat} {aS : Option Addr} {l : List SubD} {w0 w w' : World} (h0 : SubsIs glyphs aS l w0) (h : SubsIs glyphs aS l w) (hk : KeptO own w w') (hn : ∀ k t, k < w0.heap.size → ¬ own k t) : SubsIs glyphs aS l w' :=
  ⟨h0.has.keptLt h.has hk hn, fun s hs => ⟨(h0.each s hs).has.keptLt (h.each s hs).has hk hn, (h0.each s hs).rows.keptLt (h.each s hs).rows hk hn, (h.each s hs).len, (h.each s hs).few, (h.each s hs).g2, (h.each s hs).lk⟩⟩
theorem lkS_lkC {a : Option Addr} {n c : Nat} {bs : List UInt8} {glyphs : Nat} {subs : List SubD} (hh : ∀ i s, subs[i]? = some s → SubHere a n c bs glyphs i s) (hg : glyphs ≤ 65535) : lkS subs = lkC bs (subs.map SubD.rs) := by
  funext k id
  unfold lkS lkC
  rw [List.getElem?_map]
  cases hs : subs[k]? with
  | none => rfl
  | some s =>
    have h := hh k s hs
    show refG s.bs s.rs id = lkR (bs.drop (offC bs k)) s.rs id
    rw [h.eb]
    exact lkR_ref h.lk.ok hg id
theorem setG_snd (l : List (Int × Int)) (z x : Int) : (setG l z x).map Prod.snd = l.map Prod.snd := by
  unfold setG
  split
  · rename_i hin
    obtain ⟨j, p, rfl, hj⟩ := inG_yes hin
    rw [atG_of hj, Int.toNat_natCast, List.map_set]
    obtain ⟨hl, e⟩ := List.getElem?_eq_some_iff.1 hj
    have : (l.map Prod.snd)[j]'(by simpa using hl) = p.2 := by simp [e]
    show (l.map Prod.snd).set j p.2 = _
    rw [← this]
    exact List.set_getElem_self _
  · rfl
theorem swG_snd (lk : Nat → Int → Nat × Bool) (l : List (Int × Int)) (i : Int) (which : Nat) : (swG lk l i which).map Prod.snd = l.map Prod.snd := by
  unfold swG
  split
  · rfl
  split
  · split
    · exact setG_snd _ _ _
    · rfl
  · rfl
theorem ctxD_snd (bs : List UInt8) (rs : List RP) (lk : Nat → Int → Nat × Bool) (l : List (Int × Int)) : (ctxD bs rs lk l).1.1.map Prod.snd = l.map Prod.snd := by
  unfold ctxD
  exact runD_keeps (fun x : KX => x.1.map Prod.snd = l.map Prod.snd) (fun x z e h => by
    show (lineC lk x.1 x.2 z e.2.2.1 e.2.2.2).map Prod.snd = _
    unfold lineC
    rw [swG_snd, swG_snd]
    exact h) _ _ _ _ _ _ rfl
theorem newG_at (bs : List UInt8) (rs : List RP) (lk : Nat → Int → Nat × Bool) (ids : List Int) {j : Nat} {p : Int × Int} (h : (ctxD bs rs lk (newG ids)).1.1[j]? = some p) : p.2 = (j : Nat) := by
  have h1 : ((ctxD bs rs lk (newG ids)).1.1.map Prod.snd)[j]? = some p.2 := by rw [List.getElem?_map, h]; rfl
  rw [ctxD_snd, List.getElem?_map, newG_get] at h1
  cases hz : ids[j]? with
  | none => rw [hz] at h1; cases h1
  | some z =>
    rw [hz] at h1
    injection h1 with h1
    exact h1.symm
/-- The document's Read, of bytes that begin with such a subtable. -/
theorem refcread_yes (a : Option Addr) (n c : Nat) (bs : List UInt8) (glyphs : Nat) (zg : Int) (hzg : zg = (glyphs : Nat)) (rs : List RP) (S : Nat) (qs : List (List RP)) (w : World) (h : Has w a (bytesV bs)) (hl : bs.length = n) (hn : n ≤ c) (hc : c ≤ maxLen) (h20 : n ≤ 4000) (hg1 : 1 ≤ glyphs) (hg2 : glyphs ≤ 65535) (hok : COk bs glyphs rs S qs) :
    Calls Try.prog 16 #[.slice a n c, .int .i64 zg] w fun e w' => ∃ a' c' aS cS subs, subs.map SubD.rs = qs ∧ e = .returned (.tuple #[.agg ((mrefV a n c bs 2 rs S a' c').push (.slice aS subs.length cS)), .bool true]) ∧ MRf a n c bs glyphs 2 rs S a' w' ∧ SubsIs glyphs aS subs w' ∧ (∀ i s, subs[i]? = some s → SubHere a n c bs glyphs i s) ∧ Below w.heap.size w w' := by
  refine (refcread_some a n c bs glyphs zg hzg rs S w h hl hn hc h20 hg1 hg2 hok.mok).mono ?_
  rintro e w' ⟨(⟨rs', S', qs', a', c', aS, cS, subs, ho, hq, he, h1, h2, h3⟩ | ⟨hno, _⟩), hb⟩
  · obtain ⟨rfl, rfl, rfl⟩ := hok.det ho
    exact ⟨a', c', aS, cS, subs, hq, he, h1, h2, h3, hb⟩
  · exact absurd hok (hno rs S qs)
theorem refcread_no (a : Option Addr) (n c : Nat) (bs : List UInt8) (glyphs : Nat) (zg : Int) (hzg : zg = (glyphs : Nat)) (w : World) (h : Has w a (bytesV bs)) (hl : bs.length = n) (hn : n ≤ c) (hc : c ≤ maxLen) (h20 : n ≤ 4000) (hg1 : 1 ≤ glyphs) (hg2 : glyphs ≤ 65535) (hno : ∀ rs S qs, ¬ COk bs glyphs rs S qs) :
    Calls Try.prog 16 #[.slice a n c, .int .i64 zg] w fun e w' => (∃ a0 n0 c0 i1 i2 i3 i4 i5 i6 a7 n7 c7 a8 n8 c8 a9 n9 c9, e = .returned (.tuple #[.agg #[.slice a0 n0 c0, .int .i64 i1, .int .i64 i2, .int .i64 i3, .int .i64 i4, .int .i64 i5, .int .i64 i6, .slice a7 n7 c7, .slice a8 n8 c8, .slice a9 n9 c9], .bool false])) ∧ Below w.heap.size w w' := by
  have key : Calls Try.prog 16 #[.slice a n c, .int .i64 zg] w (CReadIs a n c bs glyphs w) := by
    by_cases hm : ∃ rs S, MOk bs glyphs 2 rs S
    · obtain ⟨rs, S, hm⟩ := hm
      exact refcread_some a n c bs glyphs zg hzg rs S w h hl hn hc h20 hg1 hg2 hm
    · exact refcread_none a n c bs glyphs zg hzg w h hl hn hc h20 hg1 hg2 (fun rs S h => hm ⟨rs, S, h⟩)
  refine key.mono ?_
  rintro e w' ⟨(⟨rs', S', qs', a', c', aS, cS, subs, ho, _⟩ | ⟨_, he⟩), hb⟩
  · exact absurd ho (hno rs' S' qs')
  · exact ⟨he, hb⟩
theorem ctxB_len (p : PlanL) (subs : List (List Nat)) (hC : p.cls.length ≤ 40) (hR : p.rows.length ≤ 20) (hE : p.ents.length ≤ 40) (hS : subs.length ≤ 20) (hlen : ∀ r ∈ subs, r.length ≤ 60) : (ctxB p subs).length ≤ 4000 := by
  have h1 : (planB p 2 4).length = 22 + 4 + 2 * p.cls.length + 2 * (p.rows.length * p.n) + p.ents.length * 8 := by
    simp only [planB, ofB, List.length_append, beN_length, List.length_replicate, clsB_length, rowsPB_length, entsPB_length 2 _ (by decide)]
    omega
  have h2 : p.rows.length * p.n ≤ 20 * 11 := Nat.mul_le_mul hR (by unfold PlanL.n; omega)
  have h3 : (lksB subs).length ≤ 126 * subs.length := by
    clear hS
    induction subs with
    | nil => simp [lksB]
    | cons r l ih =>
      have h1 := hlen r (by simp)
      have h2 := ih (fun x hx => hlen x (by simp [hx]))
      simp only [lksB, List.flatMap_cons, List.length_append, List.length_cons, sub8_length] at *
      omega
  unfold ctxB
  rw [List.length_append, length_splice _ 16 _ (by rw [List.length_append, beN_length]; omega), List.length_append, offsB_length]
  omega
end Go.Proofs.Ytcegoenlajkgfaa
end
section

/- What an argument that is a plan of a machine and lookups is; the contract of law 15's small. Conditions: as each says. -/
namespace Go.Proofs.Ytcegoenlajkgfaa
section
open Go.ChangeShapes Go.WideShapes Go.ChangeAt Go.RowKit
variable {H : Type} {enc : TypeId × Value → H}
theorem open_u16C {P : Program} {W : World} {t e : TypeId} {f : Nat} {v : Value} {y : DataW H × List MemPlace} (ht : P.underlying t = some (.slice e)) (he : P.underlying e = some (.int .u16))
    (h : DataW.trod enc P W 0 (fun _ => true) true f t [v] = some y) : ∃ (a : Option Addr) (c : Nat) (ss : List Nat), v = .slice a ss.length c ∧ Has W a (u16V ss) ∧ ∀ x ∈ ss, x ≤ 65535 := by
  obtain ⟨a, n, c, us, rfl, hl, _, _, _, hh, hx⟩ := open_rows_cell ht h
  have key : ∀ us : List (List Value), (∀ x ∈ us, ∃ m y, DataW.trod enc P W 0 (fun _ => true) true m e x = some y) → ∃ ss : List Nat, ss.length = us.length ∧ us.flatten = u16V ss ∧ ∀ x ∈ ss, x ≤ 65535 := by
    intro us
    induction us with
    | nil => exact fun _ => ⟨[], rfl, rfl, fun x hx => by cases hx⟩
    | cons x us ih =>
      intro h
      obtain ⟨ss, h1, h2, h3⟩ := ih (fun y hy => h y (by simp [hy]))
      obtain ⟨m, y, hy⟩ := h x (by simp)
      obtain ⟨z, rfl, _, hw⟩ := DataW.trod_int he hy
      obtain ⟨k, rfl, hk⟩ := wf_u16 hw
      refine ⟨k :: ss, by simp [h1], by simp [h2, u16V], fun x hx => ?_⟩
      rcases List.mem_cons.1 hx with rfl | hx
      · exact hk
      · exact h3 x hx
  obtain ⟨ss, h1, h2, h3⟩ := key us (fun x hx' => (hx x hx').2)
  exact ⟨a, c, ss, by rw [h1, hl], h2 ▸ hh, h3⟩
theorem open_rows16C {P : Program} {W : World} {t e u : TypeId} {f : Nat} {v : Value} {y : DataW H × List MemPlace} (ht : P.underlying t = some (.slice e)) (he : P.underlying e = some (.slice u)) (hu : P.underlying u = some (.int .u16)) (hc : P.cellsOf e = 1)
    (h : DataW.trod enc P W 0 (fun _ => true) true f t [v] = some y) : ∃ (a : Option Addr) (c : Nat) (l : List (List Nat)) (sv : List Value), v = .slice a l.length c ∧ SubsHas W a l sv ∧ (∀ r ∈ l, ∀ x ∈ r, x ≤ 65535) ∧ l.length ≤ maxLen := by
  obtain ⟨a, n, c, us, rfl, hl, hnc, hcm, _, hh, hx⟩ := open_rows_cell ht h
  have key : ∀ us : List (List Value), (∀ x ∈ us, x.length = P.cellsOf e ∧ ∃ m y, DataW.trod enc P W 0 (fun _ => true) true m e x = some y) → ∃ l : List (List Nat), l.length = us.length ∧ us.flatten.length = l.length ∧
      (∀ (i : Nat) (r : List Nat), l[i]? = some r → ∃ (ai : Option Addr) (ci : Nat), us.flatten[i]? = some (Value.slice ai r.length ci) ∧ Has W ai (u16V r)) ∧ ∀ r ∈ l, ∀ x ∈ r, x ≤ 65535 := by
    intro us
    induction us with
    | nil => exact fun _ => ⟨[], rfl, rfl, fun i r hr => by simp at hr, fun r hr => by cases hr⟩
    | cons x us ih =>
      intro h
      obtain ⟨l, h1, h2, h3, h4⟩ := ih (fun y hy => h y (by simp [hy]))
      obtain ⟨hlx, m, y, hy⟩ := h x (by simp)
      rw [hc] at hlx
      obtain ⟨x0, rfl⟩ : ∃ x0, x = [x0] := by
        match x, hlx with
        | [x0], _ => exact ⟨x0, rfl⟩
      obtain ⟨ai, ci, ss, rfl, hb, hb2⟩ := open_u16C he hu hy
      refine ⟨ss :: l, by simp [h1], by simpa using h2, fun i r hr => ?_, fun r hr => ?_⟩
      · match i with
        | 0 =>
          simp at hr
          subst hr
          exact ⟨ai, ci, by simp, hb⟩
        | i + 1 =>
          obtain ⟨aj, cj, q1, q2⟩ := h3 i r (by simpa using hr)
          exact ⟨aj, cj, by simpa using q1, q2⟩
      · rcases List.mem_cons.1 hr with rfl | hr
        · exact hb2
        · exact h4 r hr
  obtain ⟨l, h1, h2, h3, h4⟩ := key us hx
  exact ⟨a, c, l, us.flatten, by rw [h1, hl], ⟨hh, h2, h3⟩, h4, by rw [h1, hl]; omega⟩
theorem array5 {α : Type} {cs : Array α} (h : cs.size = 5) : ∃ c0 c1 c2 c3 c4, cs = #[c0, c1, c2, c3, c4] := by
  obtain ⟨l⟩ := cs
  match l, h with
  | [c0, c1, c2, c3, c4], _ => exact ⟨c0, c1, c2, c3, c4, rfl⟩
set_option maxRecDepth 100000 in
theorem open_planCells {W : World} {f : Nat} {v0 v1 v2 v3 : Value} {y : DataW H × List MemPlace} (h : DataW.trod enc Try.prog W 0 (fun _ => true) true f 26 [v0, v1, v2, v3] = some y) :
    ∃ (p : PlanL) (aC aR aE : Option Addr) (rv : List Value) (cC cR cE : Nat), v0 = .slice aC p.cls.length cC ∧ v1 = .slice aR p.rows.length cR ∧ v2 = .slice aE p.ents.length cE ∧ v3 = .int .u8 (p.wide.toNat : Nat) ∧ PlanHas W p aC aR rv aE ∧ (∀ e ∈ p.ents, wfI e.1 ∧ wfI e.2.1 ∧ wfI e.2.2.1 ∧ wfI e.2.2.2) ∧ (aE = none → cE = 0) := by
  obtain ⟨y0, y1, y2, y3, n, _, _, h0, h1, h2, h3⟩ := Go.Joins.trod_struct4 Try.underlying26 h
  change DataW.trod enc Try.prog W 0 (fun _ => true) true n 22 [v0] = some y0 at h0
  change DataW.trod enc Try.prog W 0 (fun _ => true) true n 23 [v1] = some y1 at h1
  change DataW.trod enc Try.prog W 0 (fun _ => true) true n 24 [v2] = some y2 at h2
  change DataW.trod enc Try.prog W 0 (fun _ => true) true n 5 [v3] = some y3 at h3
  obtain ⟨aC, cC, bs, rfl, hC⟩ := open_bytesC Try.underlying22 Try.underlying5 h0
  obtain ⟨aR, cR, l, rv, rfl, hR, hRl, hRr⟩ := open_rowsC Try.underlying23 Try.underlying22 Try.underlying5 (by kernel_rfl) h1
  obtain ⟨aE, cE, es, rfl, hE, hE0, hEw⟩ := open_entsC Try.underlying24 Try.underlying60 Try.underlying3 Try.underlying3 Try.underlying3 Try.underlying3 rfl rfl rfl rfl (by kernel_rfl) (by kernel_rfl) (by kernel_rfl) (by kernel_rfl) (by kernel_rfl) h2
  obtain ⟨z, e0, _, hw⟩ := DataW.trod_int Try.underlying5 h3
  obtain ⟨k, rfl, hk⟩ := wf_u8 hw
  injection e0 with e0
  subst e0
  have e1 : ((UInt8.ofNat k).toNat : Int) = k := by simp; omega
  refine ⟨⟨bs, l, es, UInt8.ofNat k⟩, aC, aR, aE, rv, cC, cR, cE, rfl, rfl, rfl, ?_, ⟨hC, hR, hRl, hRr, hE⟩, hEw, hE0⟩
  rw [e1]
set_option maxRecDepth 100000 in
theorem open_plan15 {W : World} {base : Nat} {v : Value} {d : DataW H} {pl : List MemPlace} (hv : Value.okWide Try.prog W .any base 29 v) (h : DataW.Trod enc Try.prog W 0 (fun _ => true) true 29 v d pl) :
    ∃ (p : PlanL) (aC aR aE : Option Addr) (rv : List Value) (cC cR cE : Nat) (aS : Option Addr) (cS : Nat) (subs : List (List Nat)) (sv : List Value), v = .agg #[.slice aC p.cls.length cC, .slice aR p.rows.length cR, .slice aE p.ents.length cE, .int .u8 (p.wide.toNat : Nat), .slice aS subs.length cS] ∧ PlanHas W p aC aR rv aE ∧ (∀ e ∈ p.ents, wfI e.1 ∧ wfI e.2.1 ∧ wfI e.2.2.1 ∧ wfI e.2.2.2) ∧ (aE = none → cE = 0) ∧ SubsHas W aS subs sv ∧ (∀ r ∈ subs, ∀ x ∈ r, x ≤ 65535) ∧ subs.length ≤ maxLen := by
  obtain ⟨cs, rfl, hsz⟩ := okWide_struct Try.underlying29 hv
  have h5 : Try.prog.cellsOf 29 = 5 := by kernel_rfl
  obtain ⟨v0, v1, v2, v3, v4, rfl⟩ := array5 (hsz.trans h5)
  obtain ⟨fuel, hf⟩ := h
  obtain ⟨y0, y1, n, _, _, h0, h1⟩ := trod_struct2 Try.underlying29 hf
  change DataW.trod enc Try.prog W 0 (fun _ => true) true n 26 [v0, v1, v2, v3] = some y0 at h0
  change DataW.trod enc Try.prog W 0 (fun _ => true) true n 27 [v4] = some y1 at h1
  obtain ⟨p, aC, aR, aE, rv, cC, cR, cE, rfl, rfl, rfl, rfl, hP, hw, hE⟩ := open_planCells h0
  obtain ⟨aS, cS, subs, sv, rfl, hS, h16, hm⟩ := open_rows16C Try.underlying27 Try.underlying62 Try.underlying63 (by kernel_rfl) h1
  exact ⟨p, aC, aR, aE, rv, cC, cR, cE, aS, cS, subs, sv, rfl, hP, hw, hE, hS, h16, hm⟩
end

open Go.RowKit Go.Lib
def Sm15 (subs : List (List Nat)) (nC nR nE nS nI : Nat) : Prop := (∀ r ∈ subs, r.length ≤ 60) ∧ nC ≤ 40 ∧ nR ≤ 20 ∧ nE ≤ 40 ∧ nS ≤ 20 ∧ nI ≤ 60
set_option maxRecDepth 100000 in
set_option maxHeartbeats 3200000 in
theorem small15_any (aC aR aE aI aS : Option Addr) (nC nR nE nI nS cC cR cE cI cS : Nat) (y : Int) (subs : List (List Nat)) (sv : List Value) (w : World) (hS : SubsHas w aS subs sv) (hn : subs.length = nS) (hnm : nS ≤ 9223372036854775807) :
    Calls Try.prog 13 #[.agg #[.slice aC nC cC, .slice aR nR cR, .slice aE nE cE, .int .u8 y, .slice aS nS cS], .slice aI nI cI] w fun e w' => (∃ b : Bool, e = .returned (.bool b) ∧ (b = true ↔ Sm15 subs nC nR nE nS nI)) ∧ Below w.heap.size w w' := by
  have hAC := allocC
  have hAF := allocF
  have HS := Lib.hid hS
  have HN := Lib.hid hn
  clear hS hn
  go_enter Try.func13, Try.ntmps13
  go_wp2_with fail
  obtain ⟨W, hW⟩ : ∃ W, W = w.alloc (Obj.cells #[.slice aC nC cC, .slice aR nR cR, .slice aE nE cE, .int .u8 y, .slice aS nS cS] 29) := ⟨_, rfl⟩
  have hbW : Below w.heap.size w W := by rw [hW]; exact balloc (brefl w) _
  have x2 : W.heap[w.heap.size]? = some (.cells #[.slice aC nC cC, .slice aR nR cR, .slice aE nE cE, .int .u8 y, .slice aS nS cS] 29 (0, 0)) := by rw [hW]; exact (heap_push _ _ _).trans (if_pos rfl)
  rw [← hW]
  have X2 := Lib.hid x2
  have HBW := Lib.hid hbW
  clear hW x2 hbW
  go_loopw [10] (fun i wr => ∃ j : Nat, j ≤ nS ∧ i = .int .i64 (j : Nat) ∧ (∀ k r, k < j → subs[k]? = some r → r.length ≤ 60) ∧ Below W.heap.size W wr) (fun i _ => nS - (Go.RowKit.intOf i).toNat)
  case atStart => exact ⟨0, Nat.zero_le _, rfl, fun k r hk => by omega, Below.refl _ _⟩
  case round =>
    obtain ⟨j, hj, rfl, hall, hb⟩ := hrel
    rename World => wr
    have x2 := (hb.block _ (Array.getElem?_eq_some_iff.1 X2.out).1).trans X2.out
    have q2 := fun o => cell_of_heap x2 o
    have l2 := (Array.getElem?_eq_some_iff.1 x2).1
    have HB := Lib.hid (HBW.out.trans (hb.mono HBW.out.size))
    have HBR := Lib.hid hb
    have HALL := Lib.hid hall
    clear x2 hall
    by_cases hlt : j < nS
    · obtain ⟨r, hr⟩ : ∃ r, subs[j]? = some r := ⟨_, List.getElem?_eq_getElem (by rw [HN.out]; exact hlt)⟩
      obtain ⟨ai, ci, hv, _⟩ := HS.out.each j r hr
      obtain ⟨bR, oR, hbR, hblR, hcell⟩ := (HS.out.has.below HB.out).get (by rw [HS.out.len, HN.out]; omega)
      have e0 := hcell j _ hv
      have HR := Lib.hid hr
      subst hbR
      clear hcell hv hr hb
      by_cases h60 : 60 < r.length
      · have HNO := Lib.hid (show ¬ Sm15 subs nC nR nE nS nI from fun h => by have := h.1 r (List.mem_of_getElem? HR.out); omega)
        have d1 : decide (60 < (r.length : Int)) = true := by simp; omega
        generalize r.length = rl at *
        clear h60
        go_wp2_with fail
        go_ret
        exact ⟨⟨false, rfl, by simp [HNO.out]⟩, HB.out⟩
      · have HLE := Lib.hid (show r.length ≤ 60 by omega)
        have d1 : decide (60 < (r.length : Int)) = false := by simp; omega
        generalize hrl : r.length = rl at *
        have HRL := Lib.hid hrl
        clear h60 hrl
        go_wp2_with fail
        go_roundw
        case rel => exact ⟨j + 1, hlt, by go_num, fun k x hk hx => by
          by_cases e : k = j
          · subst e
            rw [HR.out] at hx
            cases hx
            rw [HRL.out]; exact HLE.out
          · exact HALL.out k x (by omega) hx, HBR.out⟩
        case measure => simp [Go.RowKit.intOf]; omega
    · obtain rfl : nS = j := by omega
      have hsub : ∀ r ∈ subs, r.length ≤ 60 := fun r hr => by
        obtain ⟨k, hk⟩ := List.mem_iff_getElem?.1 hr
        exact HALL.out k r (by have := (List.getElem?_eq_some_iff.1 hk).1; rw [HN.out] at this; exact this) hk
      have HSUB := Lib.hid hsub
      clear hsub hb
      by_cases h1 : nC ≤ 40
      case neg =>
        have d1 : decide ((nC : Int) ≤ 40) = false := by simp; omega
        have HNO := Lib.hid (show ¬ Sm15 subs nC nR nE nS nI from fun h => h1 h.2.1)
        clear h1
        go_wp2_with fail
        go_ret
        exact ⟨⟨false, rfl, by simp [HNO.out]⟩, HB.out⟩
      have d1 : decide ((nC : Int) ≤ 40) = true := by simp; omega
      by_cases h2 : nR ≤ 20
      case neg =>
        have d2 : decide ((nR : Int) ≤ 20) = false := by simp; omega
        have HNO := Lib.hid (show ¬ Sm15 subs nC nR nE nS nI from fun h => h2 h.2.2.1)
        clear h1 h2
        go_wp2_with fail
        go_ret
        exact ⟨⟨false, rfl, by simp [HNO.out]⟩, HB.out⟩
      have d2 : decide ((nR : Int) ≤ 20) = true := by simp; omega
      by_cases h3 : nE ≤ 40
      case neg =>
        have d3 : decide ((nE : Int) ≤ 40) = false := by simp; omega
        have HNO := Lib.hid (show ¬ Sm15 subs nC nR nE nS nI from fun h => h3 h.2.2.2.1)
        clear h1 h2 h3
        go_wp2_with fail
        go_ret
        exact ⟨⟨false, rfl, by simp [HNO.out]⟩, HB.out⟩
      have d3 : decide ((nE : Int) ≤ 40) = true := by simp; omega
      by_cases h4 : nS ≤ 20
      case neg =>
        have d4 : decide ((nS : Int) ≤ 20) = false := by simp; omega
        have HNO := Lib.hid (show ¬ Sm15 subs nC nR nE nS nI from fun h => h4 h.2.2.2.2.1)
        clear h1 h2 h3 h4
        go_wp2_with fail
        go_ret
        exact ⟨⟨false, rfl, by simp [HNO.out]⟩, HB.out⟩
      have d4 : decide ((nS : Int) ≤ 20) = true := by simp; omega
      by_cases h5 : nI ≤ 60
      case neg =>
        have d5 : decide ((nI : Int) ≤ 60) = false := by simp; omega
        have HNO := Lib.hid (show ¬ Sm15 subs nC nR nE nS nI from fun h => h5 h.2.2.2.2.2)
        clear h1 h2 h3 h4 h5
        go_wp2_with fail
        go_ret
        exact ⟨⟨false, rfl, by simp [HNO.out]⟩, HB.out⟩
      have d5 : decide ((nI : Int) ≤ 60) = true := by simp; omega
      have HYES := Lib.hid (show Sm15 subs nC nR nE nS nI from ⟨HSUB.out, h1, h2, h3, h4, h5⟩)
      clear h1 h2 h3 h4 h5
      go_wp2_with fail
      go_ret
      exact ⟨⟨true, rfl, by simp [HYES.out]⟩, HB.out⟩
end Go.Proofs.Ytcegoenlajkgfaa
end
