/- Joined from: CRun CRead CSpk KRun CIdleP. -/
import Derived.Test.YtcegoenlajkgfaaJ19
import Derived.Test.YtcegoenlajkgfaaJ17
import Derived.Test.YtcegoenlajkgfaaJ20
import Derived.Test.YtcegoenlajkgfaaJ01
import Derived.Test.YtcegoenlajkgfaaJ18
section

/- ctx.Run: what a subtable that changes glyphs by what stands around them does to a line. Conditions: a subtable and a line in memory; sizes. -/
namespace Go.Proofs.Ytcegoenlajkgfaa
open Go.RowKit Go.Lib

/-- What the lookups of a list give. -/
def lkC (bs : List UInt8) (qs : List (List RP)) (which : Nat) (id : Int) : Nat × Bool := match qs[which]? with
  | some q => lkR (bs.drop (offC bs which)) q id
  | none => (0, false)
theorem lkC_of {bs : List UInt8} {qs : List (List RP)} {which : Nat} {q : List RP} (h : qs[which]? = some q) (id : Int) : lkC bs qs which id = lkR (bs.drop (offC bs which)) q id := by unfold lkC; rw [h]
theorem CIs.keepS {B B0 gt : Nat} {bs : List UInt8} {rs : List RP} {S : Nat} {qs : List (List RP)} {own : Nat → Nat → Prop} {w w' : World} (h : CIs B gt bs rs S qs w) (hk : KeepC B0 own w w') (hm : notM own) (h1 : ∀ k, ¬ own k 123) (h2 : ∀ k, ¬ own k 99) : CIs B gt bs rs S qs w' := by
  obtain ⟨g, go, ps, e1, e2, e3, e4, e5⟩ := h.is
  exact ⟨⟨g, go, ps, (hk.kept _ _ _ _ e1 (h2 _)).trans e1, e2.keepO hk hm, hk.owns e3 h1, e4, fun i q g hi hp => by obtain ⟨f, h⟩ := e5 i q g hi hp; exact ⟨f, h.keepC hk hm.2.2.2.2.1 hm.2.2.2.2.2.1 (hm.2.2.2.2.2.2 _)⟩⟩, h.ge⟩
theorem notM_S (bk : Option Nat) : notM (ownS bk) := ⟨ownS_no (by decide), ownS_no (by decide), ownS_no (by decide), ownS_no (by decide), ownS_no (by decide), ownS_no (by decide), ownS_no (by decide)⟩
def FitC (bs : List UInt8) (qs : List (List RP)) : Prop := ∀ i q, qs[i]? = some q → FitL (tabR (bs.drop (offC bs i)) q).1 (tabR (bs.drop (offC bs i)) q).2
set_option maxRecDepth 100000 in
set_option maxHeartbeats 1600000 in
theorem cchange_any (Bt gt : Nat) (bs : List UInt8) (rs : List RP) (S : Nat) (qs : List (List RP)) (B gl : Nat) (a : Option Addr) (c : Nat) (l : List (Int × Int)) (z : Int) (which : Nat) (w : World) (hC : CIs Bt gt bs rs S qs w) (hf : FitC bs qs) (hG : GIs B gl a c l w) (hB : B ≤ w.heap.size) (hids : IdsOk l) (hw : which = 65535 ∨ which < qs.length) (hq : qs.length ≤ 65535) :
    Calls Try.prog 48 #[.pointer (some ⟨gt, 0, none⟩), .pointer (some ⟨gl, 0, none⟩), .int .i64 z, .int .i64 (which : Nat)] w fun e w' => e = .returned (.tuple #[]) ∧ GIs B gl a c (swG (lkC bs qs) l z which) w' ∧ KeepC B (ownS (a.map (·.block))) w w' := by
  have hAC := allocC
  have hAF := allocF
  have hat := gat_any B gl a c l w hG z
  have HG := Lib.hid hG
  cases hin : inG l z with
  | false =>
    have hsw : swG (lkC bs qs) l z which = l := by
      unfold swG
      split
      · rfl
      · rw [if_neg (by rw [hin]; decide)]
    rw [hin, show atG l z = (0, 0) by rw [atG, if_neg (by rw [hin]; decide)]] at hat
    simp only [glyphA] at hat
    have HAT := Lib.hid hat
    have HS := Lib.hid hsw
    clear hat hsw hin hC hf hG hids hw hq
    go_enter Try.func48, Try.ntmps48
    go_wp2_with (go_at_call 49; (with_reducible refine HAT.out.mono ?_); rintro e w1 ⟨rfl, hb1⟩)
    (try simp only [Exit.inBlock, Exit.then])
    refine bodyPost_ret (results_none rfl _ _ _) rfl ?_
    rw [HS.out]
    exact ⟨rfl, HG.out.below (by exact blw), KeepC.of (by exact blw) hB⟩
  | true =>
    obtain ⟨j, p, rfl, hj⟩ := inG_yes hin
    have hatp := atG_of hj
    have hidp := hids p (List.mem_of_getElem? hj)
    have hset := gset_keep B gl a c l
    rw [hin, hatp] at hat
    obtain ⟨p1, p2⟩ := p
    simp only [glyphA] at hat hidp
    have HAT := Lib.hid hat
    have HSET := Lib.hid hset
    clear hat hset
    by_cases hN : which = 65535
    · have hsw : swG (lkC bs qs) l (j : Nat) which = l := by
        unfold swG
        rw [if_pos hN]
      have d1 : ((which : Int) == 65535) = true := by simp; omega
      have HS := Lib.hid hsw
      clear hsw hin hC hf hG hids hw hq hN hatp hj hidp
      go_enter Try.func48, Try.ntmps48
      go_wp2_with (go_at_call 49; (with_reducible refine HAT.out.mono ?_); rintro e w1 ⟨rfl, hb1⟩)
      (try simp only [Exit.inBlock, Exit.then])
      refine bodyPost_ret (results_none rfl _ _ _) rfl ?_
      rw [HS.out]
      exact ⟨rfl, HG.out.below (by exact blw), KeepC.of (by exact blw) hB⟩
    · have hlt : which < qs.length := by omega
      have d1 : ((which : Int) == 65535) = false := by simp; omega
      obtain ⟨q, hqq⟩ : ∃ q, qs[which]? = some q := ⟨_, List.getElem?_eq_getElem hlt⟩
      have HF := Lib.hid (hf which q hqq)
      have hsw : swG (lkC bs qs) l (j : Nat) which = if (lkR (bs.drop (offC bs which)) q p1).2 = true then setG l (j : Nat) ((lkR (bs.drop (offC bs which)) q p1).1 : Nat) else l := by
        unfold swG
        rw [if_neg hN, if_pos hin, hatp, lkC_of hqq]
      obtain ⟨g, go, ps, h1, h2, h3, h4, h5⟩ := hC.is
      obtain ⟨gq, hpq⟩ : ∃ gq, ps[which]? = some gq := ⟨_, List.getElem?_eq_getElem (by omega)⟩
      obtain ⟨fmt, ht⟩ := h5 which q gq hqq hpq
      have hcg : w.cell? ⟨go, which, none⟩ = some (.pointer (some ⟨gq, 0, none⟩)) := by
        obtain ⟨g0, cs, u, he, _, _, hc, _⟩ := row_at h3 which (by omega)
        have := h3.cellAt which (by omega)
        rw [List.getElem?_map, hpq] at this
        exact this
      have hgo := cell_lt hcg
      simp only at hgo
      have hgt := (Array.getElem?_eq_some_iff.1 h1).1
      have HC1 := Lib.hid h1
      have HCG := Lib.hid hcg
      have HT := Lib.hid ht
      have HS := Lib.hid hsw
      obtain ⟨NQ, hNQ⟩ : ∃ NQ, NQ = qs.length := ⟨_, rfl⟩
      rw [← hNQ] at hlt hq
      have HNQ := Lib.hid hNQ
      clear hNQ
      have HGT := Lib.hid (fun W (hW : Below w.heap.size w W) => show Calls Try.prog 64 #[.pointer (some ⟨gq, 0, none⟩), .int .i64 p1] W fun e w' => e = .returned (.tuple #[.int .i64 ((lkR (bs.drop (offC bs which)) q p1).1 : Nat), .bool (lkR (bs.drop (offC bs which)) q p1).2]) ∧ Below W.heap.size W w' from get_fn Bt gq fmt _ _ p1 W (HT.out.below hW) HF.out hidp)
      generalize lkR (bs.drop (offC bs which)) q p1 = r at *
      obtain ⟨r1, r2⟩ := r
      simp only at HGT HS
      clear hsw hin hC hf hG hids hw hN hatp hj hidp h1 h2 h3 h4 h5 hcg ht hqq hpq
      go_enter Try.func48, Try.ntmps48
      go_wp2_with (go_at_call 49; (with_reducible refine HAT.out.mono ?_); rintro e w1 ⟨rfl, hb1⟩; have HB1 := Lib.hid hb1; have hz1 := hb1.size; clear hb1)
      obtain ⟨V, hV⟩ : ∃ V, V = w1.alloc (Obj.cells #[.int .i64 p1, .int .i64 p2] 57) := ⟨_, rfl⟩
      have hbV : Below w.heap.size w V := by rw [hV]; exact balloc HB1.out _
      have x6 : V.heap[w1.heap.size]? = some (.cells #[.int .i64 p1, .int .i64 p2] 57 (0, 0)) := by rw [hV]; exact (heap_push _ _ _).trans (if_pos rfl)
      rw [← hV]
      have q6 := fun o => cell_of_heap x6 o
      have l6 := (Array.getElem?_eq_some_iff.1 x6).1
      have xt := (hbV.block _ hgt).trans HC1.out
      rw [← HNQ.out] at xt
      have qt := fun o => cell_of_heap xt o
      have lt := (Array.getElem?_eq_some_iff.1 xt).1
      have qg := (hbV.cell (p := ⟨go, which, none⟩) hgo).trans HCG.out
      have lg := cell_lt qg
      simp only at lg
      have HBV := Lib.hid hbV
      have HGV := Lib.hid (HG.out.below hbV)
      have hBV := Nat.le_trans hB hbV.size
      have HGT2 := Lib.hid (fun W (hW : Below V.heap.size V W) => HGT.out W (HBV.out.trans (hW.mono HBV.out.size)))
      clear hV hbV x6 xt hgt hgo HB1
      refine wp_region_tree (.step 0 (.step 1 (.step 2 (.step 3 (.step 4 (.step 5 (.step 6 (.step 7 (.step 8 (.step 9 (.step 10 (.step 11 (.step 12 (.step 13 (.step 14 .nil))))))))))))))) (by kernel_rfl) (by kernel_rfl) (by kernel_rfl) (by kernel_rfl) (by intro _ _ d_ _ _ h_; cases d_ <;> first | exact h_ | (dsimp +zetaDelta only at h_ ⊢; exact h_)) (fun w' => ∃ p : Wld V [], w' = p.val) (wld_start _ _) ?_
      have hG_ := @wldC V
      (refine tree_quiet gtA (by rfl) (by rfl) (fun K_ hK_ => ?_); go_big_quiet_op; refine hK_ _ ?_; clear hK_ K_)
      (refine tree_quiet gtA (by rfl) (by rfl) (fun K_ hK_ => ?_); go_big_quiet_op; refine hK_ _ ?_; clear hK_ K_)
      (refine tree_quiet gtA (by rfl) (by rfl) (fun K_ hK_ => ?_); go_big_quiet_op; refine hK_ _ ?_; clear hK_ K_)
      (refine tree_quiet gtA (by rfl) (by rfl) (fun K_ hK_ => ?_); go_big_quiet_op; refine hK_ _ ?_; clear hK_ K_)
      (refine tree_quiet gtA (by rfl) (by rfl) (fun K_ hK_ => ?_); go_big_quiet_op; refine hK_ _ ?_; clear hK_ K_)
      (refine tree_quiet gtA (by rfl) (by rfl) (fun K_ hK_ => ?_); go_big_quiet_op; refine hK_ _ ?_; clear hK_ K_)
      (refine tree_quiet gtA (by rfl) (by rfl) (fun K_ hK_ => ?_); go_big_quiet_op; refine hK_ _ ?_; clear hK_ K_)
      (refine tree_quiet gtA (by rfl) (by rfl) (fun K_ hK_ => ?_); go_big_quiet_op; refine hK_ _ ?_; clear hK_ K_)
      (refine tree_quiet gtA (by rfl) (by rfl) (fun K_ hK_ => ?_); go_big_quiet_op; refine hK_ _ ?_; clear hK_ K_)
      (refine tree_run gtA (by rfl) (by rfl) (fun K_ hK_ => ?_); have HK_ := Lib.hid hK_; clear hK_; go_wp2_with ((go_at_call 64; (with_reducible refine (HGT2.out _ (by exact blw)).mono ?_); rintro e w2 ⟨rfl, hb2⟩)); refine HK_.out _ _ (wld_ofA) ?_; clear HK_)
      (refine tree_quiet gtA (by rfl) (by rfl) (fun K_ hK_ => ?_); go_big_quiet_op; refine hK_ _ ?_; clear hK_ K_)
      (refine tree_quiet gtA (by rfl) (by rfl) (fun K_ hK_ => ?_); go_big_quiet_op; refine hK_ _ ?_; clear hK_ K_)
      (refine tree_quiet gtA (by rfl) (by rfl) (fun K_ hK_ => ?_); go_big_quiet_op; refine hK_ _ ?_; clear hK_ K_)
      (refine tree_quiet gtA (by rfl) (by rfl) (fun K_ hK_ => ?_); go_big_quiet_op; refine hK_ _ ?_; clear hK_ K_)
      (refine tree_quiet gtA (by rfl) (by rfl) (fun K_ hK_ => ?_); go_big_quiet_op; refine hK_ _ ?_; clear hK_ K_)
      refine tree_nil ?_
      clear hG_
      have hb2 : Below V.heap.size V w2 := (by exact blw)
      have HGW := Lib.hid (HGV.out.below hb2)
      have HKW := Lib.hid (KeepC.of (own := ownS (a.map (·.block))) (HBV.out.trans (hb2.mono HBV.out.size)) hB)
      clear q6 qt qg
      cases r2 with
      | true =>
        have hst := HSET.out w2 HGW.out (j : Nat) (r1 : Nat)
        have HST := Lib.hid hst
        clear hst
        go_wp2_with (go_at_call 65; (with_reducible refine HST.out.mono ?_); rintro e w3 ⟨rfl, hg3, hk3⟩; have HG3 := Lib.hid hg3; have HK3 := Lib.hid (HKW.out.trans hk3); clear hg3 hk3)
        go_end0
        rw [HS.out]
        exact ⟨rfl, by first | exact HG3.out | simpa using HG3.out, HK3.out⟩
      | false =>
        go_wp2_with fail
        go_end0
        rw [HS.out]
        exact ⟨rfl, by first | exact HGW.out | simpa using HGW.out, HKW.out⟩
/-- What the function within Run may change: the line's row, and the mark. -/
def ownA (bk : Option Nat) (g5 k t : Nat) : Prop := (t = 57 ∧ bk = some k) ∨ (t = 3 ∧ k = g5)
def ownAG (_ t : Nat) : Prop := t = 57 ∨ t = 3
theorem ownA.g {bk : Option Nat} {g5 k t : Nat} (h : ownA bk g5 k t) : ownAG k t := h.imp And.left And.left
theorem ownA_no {bk : Option Nat} {g5 t : Nat} (h1 : t ≠ 57) (h2 : t ≠ 3) : ∀ k, ¬ ownA bk g5 k t := fun _ h => by rcases h with ⟨h, _⟩ | ⟨h, _⟩; exact h1 h; exact h2 h
theorem notM_A (bk : Option Nat) (g5 : Nat) : notM (ownA bk g5) := ⟨ownA_no (by decide) (by decide), ownA_no (by decide) (by decide), ownA_no (by decide) (by decide), ownA_no (by decide) (by decide), ownA_no (by decide) (by decide), ownA_no (by decide) (by decide), ownA_no (by decide) (by decide)⟩
theorem KeepC.ofS {bk : Option Nat} {B g5 : Nat} {w w' : World} (h : KeepC B (ownS bk) w w') : KeepC B (ownA bk g5) w w' := ⟨h.below, h.size, fun k cs t fz hk ho => h.kept k cs t fz hk fun hs => ho (.inl hs)⟩
/-- What the function within Run sees. -/
structure CIn (bk : Option Nat) (Bt gt : Nat) (bs : List UInt8) (rs : List RP) (S : Nat) (qs : List (List RP)) (B gl g2 g3 g5 : Nat) (x : KX) (w : World) : Prop where
  line : ∃ a c, GIs B gl a c x.1 w ∧ a.map (·.block) = bk
  tab : CIs Bt gt bs rs S qs w
  at2 : w.heap[g2]? = some (.cells #[.pointer (some ⟨gt, 0, none⟩)] 34 (0, 0))
  at3 : w.heap[g3]? = some (.cells #[.pointer (some ⟨gl, 0, none⟩)] 48 (0, 0))
  at5 : w.heap[g5]? = some (.cells #[.int .i64 x.2] 3 (0, 0))
  few : x.1.length ≤ 1000000
  ids : IdsOk x.1
theorem CIn.below {bk : Option Nat} {Bt gt : Nat} {bs : List UInt8} {rs : List RP} {S : Nat} {qs : List (List RP)} {B gl g2 g3 g5 : Nat} {x : KX} {w w' : World} (h : CIn bk Bt gt bs rs S qs B gl g2 g3 g5 x w) (hb : Below w.heap.size w w') : CIn bk Bt gt bs rs S qs B gl g2 g3 g5 x w' :=
  ⟨by obtain ⟨a, c, hg, hbk⟩ := h.line; exact ⟨a, c, hg.below hb, hbk⟩, h.tab.below hb, (hb.block _ (Array.getElem?_eq_some_iff.1 h.at2).1).trans h.at2, (hb.block _ (Array.getElem?_eq_some_iff.1 h.at3).1).trans h.at3, (hb.block _ (Array.getElem?_eq_some_iff.1 h.at5).1).trans h.at5, h.few, h.ids⟩
theorem FitC.le {bs : List UInt8} {qs : List (List RP)} (h : FitC bs qs) (k : Nat) (id : Int) : (lkC bs qs k id).1 ≤ 4294967295 := by
  unfold lkC
  split
  · rename_i q hq
    exact getL_le (h k q hq).num
  · exact Nat.zero_le _
theorem CIn.change {bk : Option Nat} {Bt gt : Nat} {bs : List UInt8} {rs : List RP} {S : Nat} {qs : List (List RP)} {B gl g2 g3 g5 : Nat} {x : KX} {W : World} (h : CIn bk Bt gt bs rs S qs B gl g2 g3 g5 x W) (hf : FitC bs qs) (hB : B ≤ W.heap.size) (z : Int) (which : Nat) (hw : which = 65535 ∨ which < qs.length) (hq : qs.length ≤ 65535) :
    Calls Try.prog 48 #[.pointer (some ⟨gt, 0, none⟩), .pointer (some ⟨gl, 0, none⟩), .int .i64 z, .int .i64 (which : Nat)] W fun e w' => e = .returned (.tuple #[]) ∧ CIn bk Bt gt bs rs S qs B gl g2 g3 g5 (swG (lkC bs qs) x.1 z which, x.2) w' ∧ KeepC B (ownA bk g5) W w' := by
  obtain ⟨a, c, hg, hbk⟩ := h.line
  refine (cchange_any Bt gt bs rs S qs B gl a c x.1 z which W h.tab hf hg hB h.ids hw hq).mono ?_
  rintro e w' ⟨rfl, h1, h2⟩
  rw [hbk] at h2
  refine ⟨rfl, ⟨⟨a, c, h1, hbk⟩, h.tab.keepS h2 (notM_S _) (ownS_no (by decide)) (ownS_no (by decide)), (h2.kept _ _ _ _ h.at2 (ownS_no (by decide) _)).trans h.at2, (h2.kept _ _ _ _ h.at3 (ownS_no (by decide) _)).trans h.at3, (h2.kept _ _ _ _ h.at5 (ownS_no (by decide) _)).trans h.at5, ?_, swG_ids hf.le h.ids _ _⟩, h2.ofS⟩
  have := h.few
  show (swG _ _ _ _).length ≤ _
  rw [swG_length]
  exact this
theorem CIn.mark {bk : Option Nat} {Bt gt : Nat} {bs : List UInt8} {rs : List RP} {S : Nat} {qs : List (List RP)} {B gl g2 g3 g5 : Nat} {x : KX} {w W : World} (h : CIn bk Bt gt bs rs S qs B gl g2 g3 g5 x W) (hk : KeepC B (ownA bk g5) w W) (hB5 : B ≤ g5) (k : Int) : CIn bk Bt gt bs rs S qs B gl g2 g3 g5 (x.1, k) (W.setCell ⟨g5, 0, none⟩ (.int .i64 k)) ∧ KeepC B (ownA bk g5) w (W.setCell ⟨g5, 0, none⟩ (.int .i64 k)) := by
  have ne : ∀ {g : Nat} {cs : Array Value} {t : Nat} {fz : Nat × Nat}, W.heap[g]? = some (.cells cs t fz) → t ≠ 3 → g ≠ g5 := by
    rintro g cs t fz hg ht rfl
    have := hg.symm.trans h.at5
    injection this with this
    injection this with _ h2 _
    exact ht h2
  have hkk : KeepC B (ownA bk g5) W (W.setCell ⟨g5, 0, none⟩ (.int .i64 k)) := (KeepC.refl B (ownA bk g5) W).set hB5 h.at5 (.inr ⟨rfl, rfl⟩) _
  obtain ⟨a, c, hg, hbk⟩ := h.line
  refine ⟨⟨⟨a, c, hg.other (ne hg.hd (by decide)).symm (by rw [← ownBlockS a x.1.length c]; exact own_neE hg.row h.at5 (by decide)) _, hbk⟩, h.tab.keepS hkk (notM_A _ _) (ownA_no (by decide) (by decide)) (ownA_no (by decide) (by decide)), (set_heap_other _ (ne h.at2 (by decide))).trans h.at2, (set_heap_other _ (ne h.at3 (by decide))).trans h.at3, set_heap_at _ h.at5, h.few, h.ids⟩, hk.trans hkk⟩
set_option maxRecDepth 100000 in
set_option maxHeartbeats 3200000 in
theorem cdo_any {bk : Option Nat} (Bt gt : Nat) (bs : List UInt8) (rs : List RP) (S : Nat) (qs : List (List RP)) (B gl g2 g3 g5 : Nat) (x : KX) (z : Nat) (e : Ent) (w : World) (h : CIn bk Bt gt bs rs S qs B gl g2 g3 g5 x w) (hf : FitC bs qs) (hB : B ≤ w.heap.size) (hB5 : B ≤ g5) (hq : qs.length ≤ 65535) (hF : e.2.1 ≤ 65535) (hA : e.2.2.1 = 65535 ∨ e.2.2.1 < qs.length) (hBw : e.2.2.2 = 65535 ∨ e.2.2.2 < qs.length) :
    Calls Try.prog 47 #[.int .i64 (z : Nat), entV4 e, .pointer (some ⟨g2, 0, none⟩), .pointer (some ⟨g3, 0, none⟩), .pointer (some ⟨g5, 0, none⟩)] w fun r w' => r = .returned (.tuple #[]) ∧ CIn bk Bt gt bs rs S qs B gl g2 g3 g5 (actC (lkC bs qs) x z e).1 w' ∧ KeepC B (ownA bk g5) w w' := by
  have hAC := allocC
  have hAF := allocF
  obtain ⟨e0, F, A, Bw⟩ := e
  obtain ⟨l, m⟩ := x
  simp only [entV4] at hF hA hBw ⊢
  have HCH := Lib.hid (fun (x : KX) (W : World) (hi : CIn bk Bt gt bs rs S qs B gl g2 g3 g5 x W) (hz : B ≤ W.heap.size) (z : Int) (which : Nat) (hw : which = 65535 ∨ which < qs.length) => hi.change hf hz z which hw hq)
  obtain ⟨W, hW⟩ : ∃ W, W = w.alloc (.cells #[.int .i64 (e0 : Nat), .int .i64 (F : Nat), .int .i64 (A : Nat), .int .i64 (Bw : Nat)] 60) := ⟨_, rfl⟩
  have hbW : Below w.heap.size w W := by rw [hW]; exact balloc (brefl w) _
  have xe : W.heap[w.heap.size]? = some (.cells #[.int .i64 (e0 : Nat), .int .i64 (F : Nat), .int .i64 (A : Nat), .int .i64 (Bw : Nat)] 60 (0, 0)) := by rw [hW]; exact (heap_push _ _ _).trans (if_pos rfl)
  have hi := h.below hbW
  have HK := Lib.hid (KeepC.of (own := ownA bk g5) hbW hB)
  have HEQ := Lib.hid (show (actC (lkC bs qs) (l, m) z (e0, F, A, Bw)).1 = (lineC (lkC bs qs) l m z A Bw, markC (lineC (lkC bs qs) l m z A Bw) m z F) from rfl)
  have HC1 := Lib.hid (HCH.out _ W hi (Nat.le_trans hB HK.out.size) m A hA)
  have q2 := cell_of_heap h.at2 0
  have q3 := cell_of_heap h.at3 0
  have q5 := cell_of_heap h.at5 0
  simp only [List.getElem?_toArray, List.getElem?_cons_zero] at q2 q3 q5
  have l2 := cell_lt q2
  have l3 := cell_lt q3
  have l5 := cell_lt q5
  simp only at l2 l3 l5
  have HXE := Lib.hid xe
  have HBW := Lib.hid hBw
  clear h hf hbW hi hA hBw xe
  go_enter Try.func47, Try.ntmps47
  go_wp2_with fail
  rw [← hW]
  clear hW q2 q3 q5 l2 l3 l5
  refine HC1.out.mono ?_
  rintro r w1 ⟨rfl, hr, hk⟩
  have HK1 := Lib.hid (HK.out.trans hk)
  have xe := (hk.kept _ _ _ _ HXE.out (ownA_no (by decide) (by decide) _)).trans HXE.out
  have HC2 := Lib.hid (HCH.out _ w1 hr (Nat.le_trans hB HK1.out.size) (z : Nat) Bw HBW.out)
  have q2 := cell_of_heap hr.at2 0
  have q3 := cell_of_heap hr.at3 0
  have q5 := cell_of_heap hr.at5 0
  have qe := fun o => cell_of_heap xe o
  simp only [List.getElem?_toArray, List.getElem?_cons_zero] at q2 q3 q5
  have l2 := cell_lt q2
  have l3 := cell_lt q3
  have l5 := cell_lt q5
  have le := (Array.getElem?_eq_some_iff.1 xe).1
  simp only at l2 l3 l5
  have HXE := Lib.hid xe
  clear hr hk xe HC1 HK
  go_wp2_with fail
  clear q2 q3 q5 qe l2 l3 l5 le
  refine HC2.out.mono ?_
  rintro r w2 ⟨rfl, hr, hk⟩
  have HK2 := Lib.hid (HK1.out.trans hk)
  have xe := (hk.kept _ _ _ _ HXE.out (ownA_no (by decide) (by decide) _)).trans HXE.out
  change CIn bk Bt gt bs rs S qs B gl g2 g3 g5 (lineC (lkC bs qs) l m z A Bw, m) w2 at hr
  obtain ⟨L, hL⟩ : ∃ L, L = lineC (lkC bs qs) l m z A Bw := ⟨_, rfl⟩
  rw [← hL] at hr
  have HL := Lib.hid hL
  obtain ⟨a2, c2, hg2, hbk2⟩ := hr.line
  have hat := gat_any B gl a2 c2 L w2 hg2 (z : Nat)
  have q2 := cell_of_heap hr.at2 0
  have q3 := cell_of_heap hr.at3 0
  have q5 := cell_of_heap hr.at5 0
  have q5z := froz_of_heap hr.at5 0
  have qe := fun o => cell_of_heap xe o
  simp only [List.getElem?_toArray, List.getElem?_cons_zero] at q2 q3 q5
  have l2 := cell_lt q2
  have l3 := cell_lt q3
  have l5 := cell_lt q5
  have le := (Array.getElem?_eq_some_iff.1 xe).1
  simp only at l2 l3 l5
  have HXE := Lib.hid xe
  have HR := Lib.hid hr
  have hBz := HK2.out.size
  by_cases hin : z < L.length
  · have hi : inG L (z : Nat) = true := by unfold inG; simp; omega
    rw [hi] at hat
    obtain ⟨p, hp⟩ : ∃ p, p = atG L (z : Nat) := ⟨_, rfl⟩
    obtain ⟨p1, p2⟩ := p
    rw [← hp] at hat
    simp only [glyphA] at hat
    have HAT := Lib.hid hat
    by_cases hfl : F / 2 ^ 15 % 2 = 1
    · have hbt : bits .and .i64 (F : Int) 32768 = 32768 := flag_yes F 15 hF (by decide) 32768 rfl hfl
      have HM := Lib.hid (show (actC (lkC bs qs) (l, m) z (e0, F, A, Bw)).1 = (L, (z : Int)) from by rw [HEQ.out, ← HL.out, markC, if_pos ⟨hfl, hin⟩])
      clear hL hr hk xe HC2 HK1 hg2 hbk2 hat hi hp hfl hin
      go_wp2_with (go_at_call 49; (with_reducible refine HAT.out.mono ?_); rintro e w3 ⟨rfl, hb3⟩; have HB3 := Lib.hid hb3; have xe3 := (hb3.block _ le).trans HXE.out; have qe3 := fun o => cell_of_heap xe3 o; have x53 := (hb3.block _ l5).trans HR.out.at5; have q53 := cell_of_heap x53 0; have q53z := froz_of_heap x53 0; simp only [List.getElem?_toArray, List.getElem?_cons_zero] at q53; have hz3 := hb3.size; clear hb3 xe3 x53)
      go_end0
      rw [HM.out]
      have hb : Below w2.heap.size w2 (w3.alloc (Obj.cells #[.int .i64 p1, .int .i64 p2] 57)) := balloc HB3.out _
      have := (HR.out.below hb).mark (HK2.out.trans (KeepC.of hb (by omega))) hB5 (z : Int)
      exact ⟨rfl, this.1, this.2⟩
    · have hbt : bits .and .i64 (F : Int) 32768 = 0 := flag_no F 15 hF (by decide) 32768 rfl hfl
      have HM := Lib.hid (show (actC (lkC bs qs) (l, m) z (e0, F, A, Bw)).1 = (L, m) from by rw [HEQ.out, ← HL.out, markC, if_neg (fun h => hfl h.1)])
      clear hL hr hk xe HC2 HK1 hg2 hbk2 hat hi hp hfl hin
      go_wp2_with (go_at_call 49; (with_reducible refine HAT.out.mono ?_); rintro e w3 ⟨rfl, hb3⟩; have HB3 := Lib.hid hb3; have xe3 := (hb3.block _ le).trans HXE.out; have qe3 := fun o => cell_of_heap xe3 o; have hz3 := hb3.size; clear hb3 xe3)
      go_end0
      rw [HM.out]
      have hb : Below w2.heap.size w2 (w3.alloc (Obj.cells #[.int .i64 p1, .int .i64 p2] 57)) := balloc HB3.out _
      exact ⟨rfl, HR.out.below hb, HK2.out.trans (KeepC.of hb (by omega))⟩
  · have hi : inG L (z : Nat) = false := by unfold inG; simp; omega
    rw [hi, show atG L (z : Nat) = (0, 0) by rw [atG, if_neg (by rw [hi]; decide)]] at hat
    simp only [glyphA] at hat
    have HAT := Lib.hid hat
    have HM := Lib.hid (show (actC (lkC bs qs) (l, m) z (e0, F, A, Bw)).1 = (L, m) from by rw [HEQ.out, ← HL.out, markC, if_neg (fun h => hin h.2)])
    clear hL hr hk xe HC2 HK1 hg2 hbk2 hat hi hin
    go_wp2_with (go_at_call 49; (with_reducible refine HAT.out.mono ?_); rintro e w3 ⟨rfl, hb3⟩; have HB3 := Lib.hid hb3; have hz3 := hb3.size; clear hb3)
    go_end0
    rw [HM.out]
    have hb : Below w2.heap.size w2 (w3.alloc (Obj.cells #[.int .i64 0, .int .i64 0] 57)) := balloc HB3.out _
    exact ⟨rfl, HR.out.below hb, HK2.out.trans (KeepC.of hb (by omega))⟩
theorem fn_nilC (fn : Fn) (first cap : Array Value) (w : World) : (binOp .neq 106 (.func fn first cap) .nilFunc).run Try.prog w = .ok (.bool true) w := by kernel_rfl
structure CSee (bk : Option Nat) (Bt gt : Nat) (bs : List UInt8) (rs : List RP) (S : Nat) (qs : List (List RP)) (B gl g2 g3 g5 gx : Nat) (x : KX) (w : World) : Prop where
  inv : CIn bk Bt gt bs rs S qs B gl g2 g3 g5 x w
  fn : w.heap[gx]? = some (.cells #[.func (.func 47) #[] #[.pointer (some ⟨g2, 0, none⟩), .pointer (some ⟨g3, 0, none⟩), .pointer (some ⟨g5, 0, none⟩)]] 106 (0, 0))
theorem CSee.below {bk : Option Nat} {Bt gt : Nat} {bs : List UInt8} {rs : List RP} {S : Nat} {qs : List (List RP)} {B gl g2 g3 g5 gx : Nat} {x : KX} {w w' : World} (h : CSee bk Bt gt bs rs S qs B gl g2 g3 g5 gx x w) (hb : Below w.heap.size w w') : CSee bk Bt gt bs rs S qs B gl g2 g3 g5 gx x w' :=
  ⟨h.inv.below hb, (hb.block gx (Array.getElem?_eq_some_iff.1 h.fn).1).trans h.fn⟩
set_option maxRecDepth 100000 in
set_option maxHeartbeats 1600000 in
theorem cplain_any {bk : Option Nat} (Bt gt : Nat) (bs : List UInt8) (rs : List RP) (S : Nat) (qs : List (List RP)) (B gl g2 g3 g5 gx : Nat) (x : KX) (z : Nat) (e : Ent) (w : World) (h : CSee bk Bt gt bs rs S qs B gl g2 g3 g5 gx x w) (hf : FitC bs qs) (hB : B ≤ w.heap.size) (hB5 : B ≤ g5) (hq : qs.length ≤ 65535) (hF : e.2.1 ≤ 65535) (hA : e.2.2.1 = 65535 ∨ e.2.2.1 < qs.length) (hBw : e.2.2.2 = 65535 ∨ e.2.2.2 < qs.length) (hz : z ≤ 900000000) :
    Calls Try.prog 73 #[.int .i64 (z : Nat), entV4 e, .pointer (some ⟨gx, 0, none⟩)] w fun r w' => r = .returned (.tuple #[.int .i64 (actC (lkC bs qs) x z e).2.1, .int .i64 (actC (lkC bs qs) x z e).2.2]) ∧ CSee bk Bt gt bs rs S qs B gl g2 g3 g5 gx (actC (lkC bs qs) x z e).1 w' ∧ KeepC B (ownA bk g5) w w' := by
  have hAC := allocC
  have hAF := allocF
  have hN := fn_nilC
  have hX := h.fn
  have hxl := (Array.getElem?_eq_some_iff.1 hX).1
  have cx := cell_of_heap hX 0
  simp only [List.getElem?_toArray, List.getElem?_cons_zero] at cx
  have HD := Lib.hid (fun (o : Array Value) => cdo_any Bt gt bs rs S qs B gl g2 g3 g5 x z e (w.alloc (.cells o 60)) (h.inv.below (balloc (brefl w) _)) hf (by simp; omega) hB5 hq hF hA hBw)
  have HX := Lib.hid (fun (o : Array Value) W (hk : KeepC B (ownA bk g5) (w.alloc (.cells o 60)) W) => (hk.kept _ _ _ _ (((balloc (brefl w) (.cells o 60)).block _ hxl).trans hX) (ownA_no (by decide) (by decide) _)).trans (((balloc (brefl w) (.cells o 60)).block _ hxl).trans hX))
  have HK := Lib.hid (fun (o : Array Value) => KeepC.of (own := ownA bk g5) (balloc (brefl w) (.cells o 60)) hB)
  have hr : (actC (lkC bs qs) x z e).2 = ((z : Int), (z : Int) + 1) := rfl
  obtain ⟨e0, F, e2, e3⟩ := e
  generalize actC (lkC bs qs) x z (e0, F, e2, e3) = R at *
  obtain ⟨R1, R2⟩ := R
  simp only at hr
  subst hr
  simp only [entV4] at HD ⊢
  clear h hX hF hA hBw
  go_enter Try.func73, Try.ntmps73
  go_wp2_with (go_at_call 47; (with_reducible refine (HD.out _).mono ?_); rintro r w1 ⟨rfl, hr, hk⟩; have HR := Lib.hid hr; have HX1 := Lib.hid (HX.out _ _ hk); have HK1 := Lib.hid ((HK.out _).trans hk); clear hr hk)
  refine bodyPost_ret (v := .tuple #[.int .i64 (z : Nat), .int .i64 ((z : Int) + 1)]) (by simp [results, Try.results73, go_sem]) rfl ?_
  exact ⟨rfl, ⟨HR.out, HX1.out⟩, HK1.out⟩
theorem cplainf_any (fn : Fn) (first cap : Array Value) (w : World) :
    Calls Try.prog 46 #[.func fn first cap] w fun e w' => e = .returned (.func (.func 73) #[] #[.pointer (some ⟨w.heap.size, 0, none⟩)]) ∧ w' = w.alloc (.cells #[.func fn first cap] 106) := by
  go_enter Try.func46, Try.ntmps46
  go_wp2_with fail
  go_ret
  exact ⟨rfl, rfl⟩
theorem COk.fitC {bs : List UInt8} {glyphs : Nat} {rs : List RP} {S : Nat} {qs : List (List RP)} (h : COk bs glyphs rs S qs) (hg : glyphs ≤ 65535) : FitC bs qs := fun i q hq => (h.each i q hq).ok.fit hg (.inl rfl)
/-- Each entry of the machine asks for lookups of the list. -/
theorem COk.ents {bs : List UInt8} {glyphs : Nat} {rs : List RP} {S : Nat} {qs : List (List RP)} (h : COk bs glyphs rs S qs) {s c : Nat} (hs : s < S) (hc : c < num bs 0 4) : ((enM bs 2 s c).2.2.1 = 65535 ∨ (enM bs 2 s c).2.2.1 < qs.length) ∧ ((enM bs 2 s c).2.2.2 = 65535 ∨ (enM bs 2 s c).2.2.2 < qs.length) := by
  rw [h.len]
  exact cntC_in bs (ent_in hs hc)
set_option maxRecDepth 100000 in
set_option maxHeartbeats 3200000 in
theorem crun_any (Bt gt : Nat) (bs : List UInt8) (glyphs : Nat) (rs : List RP) (S : Nat) (qs : List (List RP)) (B gl : Nat) (a : Option Addr) (c : Nat) (l : List (Int × Int)) (w : World)
    (hT : CIs Bt gt bs rs S qs w) (hok : COk bs glyphs rs S qs) (hg1 : 1 ≤ glyphs) (hg2 : glyphs ≤ 65535)
    (hG : GIs B gl a c l w) (hB : B ≤ w.heap.size) (hids : IdsOk l) (hl : l.length ≤ 1000000) :
    Calls Try.prog 18 #[.pointer (some ⟨gt, 0, none⟩), .pointer (some ⟨gl, 0, none⟩)] w fun e w' => e = .returned (.int .i64 ((ctxD bs rs (lkC bs qs) l).2.2 : Nat)) ∧ (∃ a' c', GIs B gl a' c' (ctxD bs rs (lkC bs qs) l).1.1 w' ∧ a'.map (·.block) = a.map (·.block)) ∧ KeepC B (ownA (a.map (·.block)) (w.heap.size + 1 + 1)) w w' := by
  have hAC := allocC
  have hAF := allocF
  have hq : qs.length ≤ 65535 := by rw [hok.len]; exact cntC_65 _ _
  go_enter Try.func18, Try.ntmps18
  go_wp2_with fail
  obtain ⟨W, hW⟩ : ∃ W, W = ((w.alloc (Obj.cells #[.pointer (some ⟨gt, 0, none⟩)] 34)).alloc (Obj.cells #[.pointer (some ⟨gl, 0, none⟩)] 48)).alloc (Obj.cells #[.int .i64 (-1)] 3) := ⟨_, rfl⟩
  have hbW : Below w.heap.size w W := by rw [hW]; exact balloc (balloc (balloc (brefl w) _) _) _
  have hzW : W.heap.size = w.heap.size + 1 + 1 + 1 := by rw [hW]; simp
  have h2 : W.heap[w.heap.size]? = some (.cells #[.pointer (some ⟨gt, 0, none⟩)] 34 (0, 0)) := by
    rw [hW, heap_push, if_neg (by simp only [World.size_alloc]; omega), heap_push, if_neg (by simp only [World.size_alloc]; omega), heap_push, if_pos rfl]
  have h3 : W.heap[w.heap.size + 1]? = some (.cells #[.pointer (some ⟨gl, 0, none⟩)] 48 (0, 0)) := by
    rw [hW, heap_push, if_neg (by simp only [World.size_alloc]; omega), heap_push, if_pos (by simp only [World.size_alloc])]
  have h5 : W.heap[w.heap.size + 1 + 1]? = some (.cells #[.int .i64 (-1)] 3 (0, 0)) := by
    rw [hW, heap_push, if_pos (by simp only [World.size_alloc])]
  have hI : CIn (a.map (·.block)) Bt gt bs rs S qs B gl w.heap.size (w.heap.size + 1) (w.heap.size + 1 + 1) (l, -1) W := ⟨⟨a, c, hG.below hbW, rfl⟩, hT.below hbW, h2, h3, h5, hl, hids⟩
  obtain ⟨g, go, ps, e1, e2, _, _, _⟩ := hT.is
  have ht := (hbW.block gt (Array.getElem?_eq_some_iff.1 e1).1).trans e1
  rw [← hW]
  have hsee : CSee (a.map (·.block)) Bt gt bs rs S qs B gl w.heap.size (w.heap.size + 1) (w.heap.size + 1 + 1) W.heap.size (l, -1) (W.alloc (.cells #[.func (.func 47) #[] #[.pointer (some ⟨w.heap.size, 0, none⟩), .pointer (some ⟨w.heap.size + 1, 0, none⟩), .pointer (some ⟨w.heap.size + 1 + 1, 0, none⟩)]] 106)).drew :=
    ⟨hI.below (bdrew1 (balloc (brefl W) _)), by show (W.alloc _).heap[W.heap.size]? = _; rw [heap_push]; exact if_pos rfl⟩
  have hbX : Below w.heap.size w (W.alloc (.cells #[.func (.func 47) #[] #[.pointer (some ⟨w.heap.size, 0, none⟩), .pointer (some ⟨w.heap.size + 1, 0, none⟩), .pointer (some ⟨w.heap.size + 1 + 1, 0, none⟩)]] 106)).drew := hbW.trans ((bdrew1 (balloc (brefl W) _)).mono hbW.size)
  have hS : S ≤ 65536 := hok.mok.least.least 65536 ⟨by decide, needS_le bs 2 _⟩
  have hfit := hok.mok.lk.fit hg2 (.inl rfl)
  have hrun := drunE_any (X := KX) (fun x => x.1) (CSee (a.map (·.block)) Bt gt bs rs S qs B gl w.heap.size (w.heap.size + 1) (w.heap.size + 1 + 1) W.heap.size) (actC (lkC bs qs)) (ownA (a.map (·.block)) (w.heap.size + 1 + 1)) 1 Bt g bs 2 glyphs rs S B B gl W.heap.size (l, -1) _ (e2.below hbX) hS hok.mok hg1 hfit (notM_A _ _) (Nat.le_trans hB hbX.size) hsee (fun x V V' h hb => h.below hb) (fun x V h => by obtain ⟨a', c', hg, _⟩ := h.inv.line; exact ⟨a', c', hg⟩) (fun x V h => h.inv.ids) l.length rfl hl (by omega) (fun x z e => ⟨by simp [actC]; omega, by simp [actC]⟩)
    (fun x V z e h hk hz hsc _ hF _ _ => by
      obtain ⟨s, c, hs, hc, he⟩ := hsc
      have := hok.ents hs hc
      rw [← he] at this
      exact cplain_any Bt gt bs rs S qs B gl _ _ _ _ x z e V h (hok.fitC hg2) (Nat.le_trans (Nat.le_trans hB hbX.size) hk.size) (by omega) hq hF this.1 this.2 (by omega))
  change Calls _ _ _ _ (fun e w' => e = .returned (.tuple #[.int .i64 ((ctxD bs rs (lkC bs qs) l).2.1 : Nat), .int .i64 ((ctxD bs rs (lkC bs qs) l).2.2 : Nat)]) ∧ CSee (a.map (·.block)) Bt gt bs rs S qs B gl w.heap.size (w.heap.size + 1) (w.heap.size + 1 + 1) W.heap.size (ctxD bs rs (lkC bs qs) l).1 w' ∧ KeepC B (ownA (a.map (·.block)) (w.heap.size + 1 + 1)) _ w') at hrun
  obtain ⟨R, hR⟩ : ∃ R, R = ctxD bs rs (lkC bs qs) l := ⟨_, rfl⟩
  rw [← hR] at hrun
  have HR := Lib.hid hR
  clear hR
  have HRUN := Lib.hid hrun
  have HKX := Lib.hid (KeepC.of (own := ownA (a.map (·.block)) (w.heap.size + 1 + 1)) hbX hB)
  have HBW := Lib.hid hbW
  obtain ⟨NQ, hNQ⟩ : ∃ NQ, NQ = qs.length := ⟨_, rfl⟩
  rw [← hNQ] at ht
  clear hNQ hzW hW hI h5 hsee hbX hrun hok hfit hG hids hT e1 e2 hq
  refine wp_region_tree (.step 0 (.step 1 (.step 2 (.step 3 (.step 4 (.step 5 (.step 6 (.step 7 (.step 8 (.step 9 (.step 10 (.step 11 (.step 12 .nil))))))))))))) (by kernel_rfl) (by kernel_rfl) (by kernel_rfl) (by kernel_rfl) (by intro _ _ d_ _ _ h_; cases d_ <;> first | exact h_ | (dsimp +zetaDelta only at h_ ⊢; exact h_)) (fun w' => ∃ p : KepP (ownAG) W, w' = p.val) (kepP_start _ _) ?_
  have hK0_ := fun (p : KepP (ownAG) W) (o : Nat) => p.is.cell ht (by first | (intro h_; exact absurd h_.1 (by decide)) | (intro h_; exact h_.2 rfl) | (intro h_; rcases h_ with h_ | h_ | h_ <;> exact absurd h_ (by decide)) | (intro h_; rcases h_ with h_ | h_ <;> exact absurd h_ (by decide))) o
  have hK1_ := fun (p : KepP (ownAG) W) (o : Nat) => p.is.cell h2 (by first | (intro h_; exact absurd h_.1 (by decide)) | (intro h_; exact h_.2 rfl) | (intro h_; rcases h_ with h_ | h_ | h_ <;> exact absurd h_ (by decide)) | (intro h_; rcases h_ with h_ | h_ <;> exact absurd h_ (by decide))) o
  have hK2_ := fun (p : KepP (ownAG) W) (o : Nat) => p.is.cell h3 (by first | (intro h_; exact absurd h_.1 (by decide)) | (intro h_; exact h_.2 rfl) | (intro h_; rcases h_ with h_ | h_ | h_ <;> exact absurd h_ (by decide)) | (intro h_; rcases h_ with h_ | h_ <;> exact absurd h_ (by decide))) o
  (refine tree_quiet gtA (by rfl) (by rfl) (fun K_ hK_ => ?_); go_big_quiet_op; refine hK_ _ ?_; clear hK_ K_)
  (refine tree_quiet gtA (by rfl) (by rfl) (fun K_ hK_ => ?_); go_big_quiet_op; refine hK_ _ ?_; clear hK_ K_)
  (refine tree_quiet gtA (by rfl) (by rfl) (fun K_ hK_ => ?_); go_big_quiet_op; refine hK_ _ ?_; clear hK_ K_)
  (refine tree_quiet gtA (by rfl) (by rfl) (fun K_ hK_ => ?_); go_big_quiet_op; refine hK_ _ ?_; clear hK_ K_)
  (refine tree_quiet gtA (by rfl) (by rfl) (fun K_ hK_ => ?_); go_big_quiet_op; refine hK_ _ ?_; clear hK_ K_)
  (refine tree_quiet gtA (by rfl) (by rfl) (fun K_ hK_ => ?_); go_big_quiet_op; refine hK_ _ ?_; clear hK_ K_)
  (refine tree_run gtA (by rfl) (by rfl) (fun K_ hK_ => ?_); have HK_ := Lib.hid hK_; clear hK_; go_wp2_with (first | (go_at_call 46; (with_reducible refine (cplainf_any _ _ _ _).mono ?_); rintro e w5 ⟨rfl, rfl⟩; have hko4 : KeptO ownAG W (W.drew.alloc (.cells #[.func (.func 47) #[] #[.pointer (some ⟨w.heap.size, 0, none⟩), .pointer (some ⟨w.heap.size + 1, 0, none⟩), .pointer (some ⟨w.heap.size + 1 + 1, 0, none⟩)]] 106)) := KeptO.below (balloc (bdrew1 (brefl W)) _); have hko5 : KeptO ownAG W (W.alloc (.cells #[.func (.func 47) #[] #[.pointer (some ⟨w.heap.size, 0, none⟩), .pointer (some ⟨w.heap.size + 1, 0, none⟩), .pointer (some ⟨w.heap.size + 1 + 1, 0, none⟩)]] 106)).drew := KeptO.below (bdrew1 (balloc (brefl W) _))) | (go_at_call 45; (with_reducible refine HRUN.out.mono ?_); rintro e w7 ⟨rfl, hx7, hk7⟩; have HX7 := Lib.hid hx7; have HK7 := Lib.hid (HKX.out.trans hk7); have hko7 : KeptO ownAG W w7 := hko5.trans ⟨hk7.size, fun k cs t fz hk ho => hk7.kept k cs t fz hk (fun h => ho h.g)⟩; clear hx7 hk7)); refine HK_.out _ _ (kepP_ofA) ?_; clear HK_)
  (refine tree_run gtA (by rfl) (by rfl) (fun K_ hK_ => ?_); have HK_ := Lib.hid hK_; clear hK_; go_wp2_with (first | (go_at_call 46; (with_reducible refine (cplainf_any _ _ _ _).mono ?_); rintro e w5 ⟨rfl, rfl⟩; have hko4 : KeptO ownAG W (W.drew.alloc (.cells #[.func (.func 47) #[] #[.pointer (some ⟨w.heap.size, 0, none⟩), .pointer (some ⟨w.heap.size + 1, 0, none⟩), .pointer (some ⟨w.heap.size + 1 + 1, 0, none⟩)]] 106)) := KeptO.below (balloc (bdrew1 (brefl W)) _); have hko5 : KeptO ownAG W (W.alloc (.cells #[.func (.func 47) #[] #[.pointer (some ⟨w.heap.size, 0, none⟩), .pointer (some ⟨w.heap.size + 1, 0, none⟩), .pointer (some ⟨w.heap.size + 1 + 1, 0, none⟩)]] 106)).drew := KeptO.below (bdrew1 (balloc (brefl W) _))) | (go_at_call 45; (with_reducible refine HRUN.out.mono ?_); rintro e w7 ⟨rfl, hx7, hk7⟩; have HX7 := Lib.hid hx7; have HK7 := Lib.hid (HKX.out.trans hk7); have hko7 : KeptO ownAG W w7 := hko5.trans ⟨hk7.size, fun k cs t fz hk ho => hk7.kept k cs t fz hk (fun h => ho h.g)⟩; clear hx7 hk7)); refine HK_.out _ _ (kepP_ofA) ?_; clear HK_)
  (refine tree_quiet gtA (by rfl) (by rfl) (fun K_ hK_ => ?_); go_big_quiet_op; refine hK_ _ ?_; clear hK_ K_)
  (refine tree_quiet gtA (by rfl) (by rfl) (fun K_ hK_ => ?_); go_big_quiet_op; refine hK_ _ ?_; clear hK_ K_)
  (refine tree_quiet gtA (by rfl) (by rfl) (fun K_ hK_ => ?_); go_big_quiet_op; refine hK_ _ ?_; clear hK_ K_)
  (refine tree_quiet gtA (by rfl) (by rfl) (fun K_ hK_ => ?_); go_big_quiet_op; refine hK_ _ ?_; clear hK_ K_)
  (refine tree_quiet gtA (by rfl) (by rfl) (fun K_ hK_ => ?_); go_big_quiet_op; refine hK_ _ ?_; clear hK_ K_)
  refine tree_nil ?_
  clear hK0_ hK1_ hK2_
  go_wp2_with fail
  go_ret
  rw [← HR.out]
  exact ⟨rfl, HX7.out.inv.line, HK7.out⟩
end Go.Proofs.Ytcegoenlajkgfaa
end
section

/- ctx.Read: such a subtable that bytes begin with. Conditions: as many bytes as the slice says; glyphs as an int. -/
namespace Go.Proofs.Ytcegoenlajkgfaa
open Go.RowKit Go.Lib

theorem CIs.setOther {B gt g3 : Nat} {bs : List UInt8} {rs : List RP} {S : Nat} {qs : List (List RP)} {w : World} {cs : Array Value} {fz : Nat × Nat} (h : CIs B gt bs rs S qs w) (hw : w.heap[g3]? = some (.cells cs 34 fz)) (v : Value) : CIs B gt bs rs S qs (w.setCell ⟨g3, 0, none⟩ v) := by
  obtain ⟨g, go, ps, h1, h2, h3, h4, h5⟩ := h.is
  refine ⟨⟨g, go, ps, ?_, h2.setOther (o := 0) hw (by refine ⟨fun k h => ?_, fun k h => ?_, fun k h => ?_, fun k h => ?_, fun k h => ?_, fun k h => ?_, fun k h => ?_⟩ <;> · simp at h) v, set_owns v h3 (own_neE h3 hw (by decide)), h4, fun i q g hi hp => by obtain ⟨f, h⟩ := h5 i q g hi hp; exact ⟨f, h.setOther (o := 0) hw (by decide) (by decide) (by decide) v⟩⟩, h.ge⟩
  refine (set_heap_other _ ?_).trans h1
  rintro rfl
  rw [h1] at hw
  injection hw with hw
  injection hw with _ h4 _
  exact absurd h4 (by decide)
def CRead1R (B : Nat) (w : World) (g3 : Nat) (bs : List UInt8) (glyphs : Nat) (ok : Bool) (w' : World) : Prop :=
  (ok = true ∧ ∃ rs S qs g, COk bs glyphs rs S qs ∧ w'.heap[g3]? = some (.cells #[.pointer (some ⟨g, 0, none⟩)] 34 (0, 0)) ∧ CIs w.heap.size g bs rs S qs w' ∧ Below B w w' ∧ w.heap.size ≤ w'.heap.size) ∨
  (ok = false ∧ (∀ rs S qs, ¬ COk bs glyphs rs S qs) ∧ Below w.heap.size w w')
theorem enter_cread1 (args : Array Value) (w : World) : (callFunc 41 args).run Try.prog w = .ok (.enter 41 args) w := by kernel_rfl
set_option maxRecDepth 100000 in
set_option maxHeartbeats 1600000 in
theorem cread1_any (B : Nat) (a : Option Addr) (n c : Nat) (bs : List UInt8) (glyphs : Nat) (g0 g1 g3 : Nat) (x : Value) (w : World) (h : Has w a (bytesV bs)) (hl : bs.length = n) (hn : n ≤ c) (hc : c ≤ maxLen) (hg1 : 1 ≤ glyphs) (hg2 : glyphs ≤ 65535) (hB : B ≤ g3)
    (c0 : w.cell? ⟨g0, 0, none⟩ = some (.slice a n c)) (c1 : w.cell? ⟨g1, 0, none⟩ = some (.int .i64 (glyphs : Nat)))
    (c3 : w.heap[g3]? = some (.cells #[x] 34 (0, 0))) :
    Calls Try.prog 41 #[.pointer (some ⟨g0, 0, none⟩), .pointer (some ⟨g1, 0, none⟩), .pointer (some ⟨g3, 0, none⟩)] w
      fun e w' => (e = .returned (.tuple #[]) ∧ CRead1R B w g3 bs glyphs true w') ∨ (e = .panicked thrown ∧ CRead1R B w g3 bs glyphs false w') := by
  have HH := Lib.hid h
  have HL := Lib.hid hl
  have C3 := Lib.hid c3
  have l0 := cell_lt c0
  have l1 := cell_lt c1
  have l3 := (Array.getElem?_eq_some_iff.1 c3).1
  simp only at l0 l1
  clear h hl c3
  by_cases hok : ∃ rs S qs, COk bs glyphs rs S qs
  · obtain ⟨rs, S, qs, hok⟩ := hok
    have HOK := Lib.hid hok
    have HT := Lib.hid (fun W hw => ctake_ok a n c bs glyphs rs S qs W hw HL.out hn hc hg1 hg2 hok)
    clear hok
    go_enter Try.func41, Try.ntmps41
    go_wp2_with fail
    refine wp_region_last (.step 0 (.step 2 (.step 1 (.step 3 (.step 4 .nil))))) 4 (by kernel_rfl) (by kernel_rfl) (by kernel_rfl) (by kernel_rfl) (by kernel_rfl) (by intro _ _ d_ _ _ h_; cases d_ <;> first | exact h_ | (dsimp +zetaDelta only at h_ ⊢; exact h_)) (fun w' => ∃ p : Wld w [], w' = p.val) (wld_start _ _) ?_
    have hG_ := @wldC w
    (refine z_quiet gtA (by rfl) (by rfl) (fun K_ hK_ => ?_); go_big_quiet_op; refine hK_ _ ?_; clear hK_ K_)
    (refine z_quiet gtA (by rfl) (by rfl) (fun K_ hK_ => ?_); go_big_quiet_op; refine hK_ _ ?_; clear hK_ K_)
    (refine z_run gtA (by rfl) (by rfl) (fun K_ hK_ => ?_); have HK_ := Lib.hid hK_; clear hK_; go_wp2_with (first | (go_at_call 27; (with_reducible refine (of_any _ _ _ _).mono ?_); rintro e wa ⟨rfl, hba⟩; have hac := bc hba; have haf := bf hba; have haz := hba.size; try simp only [World.size_alloc, World.size_drew] at haz) | (go_at_call 26; (with_reducible refine (HT.out _ (HH.out.below (by exact blw))).mono ?_); rintro e wb ⟨g, rfl, hown, hbb⟩; have hbz := hbb.size; have HOW := Lib.hid hown; have hB4 : Below w.heap.size w wb := blw; have c4b := (hB4.block g3 l3).trans C3.out; have q4 := cell_of_heap c4b 0; have f4 := froz_of_heap c4b 0; have HC4 := Lib.hid c4b; have HBB := Lib.hid hB4; clear hown hbb hB4 c4b)); refine HK_.out _ _ (wld_ofA) ?_; clear HK_)
    (refine z_run gtA (by rfl) (by rfl) (fun K_ hK_ => ?_); have HK_ := Lib.hid hK_; clear hK_; go_wp2_with (first | (go_at_call 27; (with_reducible refine (of_any _ _ _ _).mono ?_); rintro e wa ⟨rfl, hba⟩; have hac := bc hba; have haf := bf hba; have haz := hba.size; try simp only [World.size_alloc, World.size_drew] at haz) | (go_at_call 26; (with_reducible refine (HT.out _ (HH.out.below (by exact blw))).mono ?_); rintro e wb ⟨g, rfl, hown, hbb⟩; have hbz := hbb.size; have HOW := Lib.hid hown; have hB4 : Below w.heap.size w wb := blw; have c4b := (hB4.block g3 l3).trans C3.out; have q4 := cell_of_heap c4b 0; have f4 := froz_of_heap c4b 0; have HC4 := Lib.hid c4b; have HBB := Lib.hid hB4; clear hown hbb hB4 c4b)); refine HK_.out _ _ (wld_ofA) ?_; clear HK_)
    (refine z_last gtA (by rfl) (by rfl) (by rfl) (fun K_ hK_ => ?_); have HK_ := Lib.hid hK_; clear hK_; go_wp2_with (first | (go_at_call 27; (with_reducible refine (of_any _ _ _ _).mono ?_); rintro e wa ⟨rfl, hba⟩; have hac := bc hba; have haf := bf hba; have haz := hba.size; try simp only [World.size_alloc, World.size_drew] at haz) | (go_at_call 26; (with_reducible refine (HT.out _ (HH.out.below (by exact blw))).mono ?_); rintro e wb ⟨g, rfl, hown, hbb⟩; have hbz := hbb.size; have HOW := Lib.hid hown; have hB4 : Below w.heap.size w wb := blw; have c4b := (hB4.block g3 l3).trans C3.out; have q4 := cell_of_heap c4b 0; have f4 := froz_of_heap c4b 0; have HC4 := Lib.hid c4b; have HBB := Lib.hid hB4; clear hown hbb hB4 c4b)); refine HK_.out _ _ ?_; clear HK_)
    refine z_nil ?_
    clear hG_
    go_end0
    refine .inl ⟨rfl, .inl ⟨rfl, rs, S, qs, g, HOK.out, set_heap_at _ HC4.out, ?_, (HBB.out.mono (Nat.le_of_lt (by omega))).setCell (p := ⟨g3, 0, none⟩) hB _, by have := HBB.out.size; simpa using this⟩⟩
    exact (HOW.out.setOther HC4.out (.pointer (some ⟨g, 0, none⟩))).mono (by omega)
  · have HNO := Lib.hid (show ∀ rs S qs, ¬ COk bs glyphs rs S qs from fun rs S qs ho => hok ⟨rs, S, qs, ho⟩)
    have HT := Lib.hid (fun W hw => ctake_bad a n c bs glyphs W hw HL.out hn hc hg1 hg2 HNO.out)
    clear hok
    go_enter Try.func41, Try.ntmps41
    go_wp2_with fail
    refine wp_region_tree (.step 0 (.step 2 (.step 1 (.step 3 (.step 4 .nil))))) (by kernel_rfl) (by kernel_rfl) (by kernel_rfl) (by kernel_rfl) (by intro _ _ d_ _ _ h_; cases d_ <;> first | exact h_ | (dsimp +zetaDelta only at h_ ⊢; exact h_)) (fun w' => ∃ p : BelW w.heap.size w, w' = p.val) (bel_start _ _) ?_
    have hG_ := @belC w.heap.size w
    (refine tree_quiet gtA (by rfl) (by rfl) (fun K_ hK_ => ?_); go_big_quiet_op; refine hK_ _ ?_; clear hK_ K_)
    (refine tree_quiet gtA (by rfl) (by rfl) (fun K_ hK_ => ?_); go_big_quiet_op; refine hK_ _ ?_; clear hK_ K_)
    (refine tree_run gtA (by rfl) (by rfl) (fun K_ hK_ => ?_); have HK_ := Lib.hid hK_; clear hK_; go_wp2_with (first | (go_at_call 27; (with_reducible refine (of_any _ _ _ _).mono ?_); rintro e wa ⟨rfl, hba⟩; have hac := bc hba; have haf := bf hba; have haz := hba.size; try simp only [World.size_alloc, World.size_drew] at haz) | (go_at_call 26; (with_reducible refine (HT.out _ (HH.out.below (by exact blw))).mono ?_); rintro e wb ⟨rfl, hbb⟩; have hbc := bc hbb; have hbf := bf hbb; have hbz := hbb.size; try simp only [World.size_alloc, World.size_drew] at hbz)); refine HK_.out _ _ (bel_ofA) ?_; clear HK_)
    (refine tree_run gtA (by rfl) (by rfl) (fun K_ hK_ => ?_); have HK_ := Lib.hid hK_; clear hK_; go_wp2_with (first | (go_at_call 27; (with_reducible refine (of_any _ _ _ _).mono ?_); rintro e wa ⟨rfl, hba⟩; have hac := bc hba; have haf := bf hba; have haz := hba.size; try simp only [World.size_alloc, World.size_drew] at haz) | (go_at_call 26; (with_reducible refine (HT.out _ (HH.out.below (by exact blw))).mono ?_); rintro e wb ⟨rfl, hbb⟩; have hbc := bc hbb; have hbf := bf hbb; have hbz := hbb.size; try simp only [World.size_alloc, World.size_drew] at hbz)); exact ⟨rfl, .inr ⟨rfl, .inr ⟨rfl, HNO.out, by repeat (first | exact Below.refl _ _ | assumption | refine bdrew1q ?_ | refine balloc ?_ _ | refine bthen ?_ (by assumption) | refine Below.trans ?_ (by assumption))⟩⟩⟩)
def CRdIs (bs : List UInt8) (zg : Int) (w : World) (e : Ending) (w' : World) : Prop :=
  (((zg < 1 ∨ 65535 < zg) ∧ e = .returned (.tuple #[.pointer none, .int .i64 1])) ∨
   (1 ≤ zg ∧ zg ≤ 65535 ∧ (∀ rs S qs, ¬ COk bs zg.toNat rs S qs) ∧ e = .returned (.tuple #[.pointer none, .int .i64 2])) ∨
   (1 ≤ zg ∧ zg ≤ 65535 ∧ ∃ rs S qs g, COk bs zg.toNat rs S qs ∧ e = .returned (.tuple #[.pointer (some ⟨g, 0, none⟩), .int .i64 0]) ∧ CIs w.heap.size g bs rs S qs w')) ∧ Below w.heap.size w w'
set_option maxRecDepth 100000 in
set_option maxHeartbeats 3200000 in
theorem cread_any (a : Option Addr) (n c : Nat) (bs : List UInt8) (zg : Int) (w : World) (h : Has w a (bytesV bs)) (hl : bs.length = n) (hn : n ≤ c) (hc : c ≤ maxLen) (hzg : -9223372036854775808 ≤ zg ∧ zg ≤ 9223372036854775807) :
    Calls Try.prog 15 #[.slice a n c, .int .i64 zg] w (CRdIs bs zg w) := by
  have HH := Lib.hid h
  have HL := Lib.hid hl
  clear h hl
  have hAC := allocC
  have hAF := allocF
  have hmf : ∀ (fn : Fn) (first cap : Array Value) (w : World), (Instr.makeFunc fn first cap).run Try.prog w = .ok (.func fn first cap) w := fun _ _ _ _ => rfl
  obtain ⟨hn1, hn2⟩ := hzg
  by_cases hb1 : zg < 1
  · go_enter Try.func15, Try.ntmps15
    go_wp2_with fail
    refine bodyPost_ret (v := .tuple #[.pointer none, .int .i64 1]) (by simp [results, Try.results15, go_sem, hAC, hAF]) rfl ?_
    exact ⟨.inl ⟨.inl hb1, rfl⟩, blw⟩
  by_cases hb2 : 65535 < zg
  · go_enter Try.func15, Try.ntmps15
    go_wp2_with fail
    refine bodyPost_ret (v := .tuple #[.pointer none, .int .i64 1]) (by simp [results, Try.results15, go_sem, hAC, hAF]) rfl ?_
    exact ⟨.inl ⟨.inr hb2, rfl⟩, blw⟩
  obtain ⟨G, rfl⟩ : ∃ G : Nat, zg = G := ⟨zg.toNat, by omega⟩
  go_enter Try.func15, Try.ntmps15
  go_wp2_with fail
  obtain ⟨W, hW⟩ : ∃ W, W = ((w.alloc (Obj.cells #[.slice a n c] 22)).alloc (Obj.cells #[.int .i64 (G : Nat)] 3)).alloc (Obj.cells #[.pointer none] 34) := ⟨_, rfl⟩
  have hb : Below w.heap.size w W := by rw [hW]; exact blw
  have hz : W.heap.size = w.heap.size + 3 := by rw [hW]; simp
  have c0 : W.cell? ⟨w.heap.size, 0, none⟩ = some (.slice a n c) := by rw [hW]; exact ((balloc (balloc (brefl _) _) _).cell (p := ⟨w.heap.size, 0, none⟩) (by simp)).trans (cell_of_heap (heap_new w (.slice a n c) _) 0)
  have c1 : W.cell? ⟨w.heap.size + 1, 0, none⟩ = some (.int .i64 (G : Nat)) := by rw [hW]; simp [hAC]
  have c3 : W.heap[w.heap.size + 1 + 1]? = some (.cells #[.pointer none] 34 (0, 0)) := by
    rw [hW, heap_push, if_pos (by simp)]
  rw [← hW]
  clear hW
  have HB := Lib.hid hb
  have hlz : W.heap.size = w.heap.size + 3 := hz
  have HT := Lib.hid (try_any 41 _ W (CRead1R w.heap.size W (w.heap.size + 1 + 1) bs G) (enter_cread1 _)
    (cread1_any w.heap.size a n c bs G _ _ _ _ _ (HH.out.below HB.out) HL.out hn hc (by omega) (by omega) (by omega) c0 c1 c3))
  have C3 := Lib.hid c3
  clear c0 c1 c3 hb
  refine HT.out.mono ?_
  rintro r w2 ⟨ok, rfl, (⟨rfl, rs, S, qs, g, hok, hG, htb, hb2, hz2⟩ | ⟨rfl, hno, hb2⟩)⟩
  case inr =>
    have HNO := Lib.hid hno
    have HB2 := Lib.hid (HB.out.trans (hb2.mono HB.out.size))
    have q3 := cell_of_heap ((hb2.block (w.heap.size + 1 + 1) (by omega)).trans C3.out) 0
    have qf := fun o => froz_of_heap ((hb2.block (w.heap.size + 1 + 1) (by omega)).trans C3.out) o
    simp only [List.getElem?_toArray, List.getElem?_cons_zero] at q3
    have hl3 := cell_lt q3
    simp only at hl3
    clear hno hb2 HT hz hlz
    go_wp2_with fail
    refine bodyPost_ret (v := .tuple #[.pointer none, .int .i64 2]) (by simp [results, Try.results15, go_sem, q3, qf]) rfl ?_
    exact ⟨.inr (.inl ⟨by omega, by omega, HNO.out, rfl⟩), HB2.out.setCell (p := ⟨w.heap.size + 1 + 1, 0, none⟩) (by show w.heap.size ≤ w.heap.size + 1 + 1; omega) _⟩
  have HOK := Lib.hid hok
  have HB2 := Lib.hid (HB.out.trans hb2)
  have HTB := Lib.hid ((htb.setOther hG (.pointer (some ⟨g, 0, none⟩))).mono (show w.heap.size ≤ W.heap.size by omega))
  have q10 := cell_of_heap hG 0
  have qf := fun o => froz_of_heap hG o
  simp only [List.getElem?_toArray, List.getElem?_cons_zero] at q10
  have hgl := (Array.getElem?_eq_some_iff.1 hG).1
  clear hok hb2 hG htb HT hz hlz hz2
  go_wp2_with fail
  refine bodyPost_ret (v := .tuple #[.pointer (some ⟨g, 0, none⟩), .int .i64 0]) (by simp [results, Try.results15, go_sem, q10, qf]) rfl ?_
  exact ⟨.inr (.inr ⟨by omega, by omega, rs, S, qs, g, HOK.out, rfl, HTB.out⟩), HB2.out.setCell (p := ⟨w.heap.size + 1 + 1, 0, none⟩) (by show w.heap.size ≤ w.heap.size + 1 + 1; omega) _⟩
theorem cread_some (a : Option Addr) (n c : Nat) (bs : List UInt8) (glyphs : Nat) (zg : Int) (hzg : zg = (glyphs : Nat)) (rs : List RP) (S : Nat) (qs : List (List RP)) (w : World) (h : Has w a (bytesV bs)) (hl : bs.length = n) (hn : n ≤ c) (hc : c ≤ maxLen) (hg1 : 1 ≤ glyphs) (hg2 : glyphs ≤ 65535) (hok : COk bs glyphs rs S qs) :
    Calls Try.prog 15 #[.slice a n c, .int .i64 zg] w fun e w' => ∃ g, e = .returned (.tuple #[.pointer (some ⟨g, 0, none⟩), .int .i64 0]) ∧ CIs w.heap.size g bs rs S qs w' ∧ Below w.heap.size w w' := by
  subst hzg
  refine (cread_any a n c bs _ w h hl hn hc (by omega)).mono ?_
  rintro e w' ⟨(⟨hb, _⟩ | ⟨_, _, hno, _⟩ | ⟨_, _, rs', S', qs', g, hr, he, ht⟩), hb'⟩
  · omega
  · exact absurd hok (hno rs S qs)
  · obtain ⟨rfl, rfl, rfl⟩ := hok.det hr
    exact ⟨g, he, ht, hb'⟩
theorem cread_none (a : Option Addr) (n c : Nat) (bs : List UInt8) (glyphs : Nat) (zg : Int) (hzg : zg = (glyphs : Nat)) (w : World) (h : Has w a (bytesV bs)) (hl : bs.length = n) (hn : n ≤ c) (hc : c ≤ maxLen) (hg1 : 1 ≤ glyphs) (hg2 : glyphs ≤ 65535) (hno : ∀ rs S qs, ¬ COk bs glyphs rs S qs) :
    Calls Try.prog 15 #[.slice a n c, .int .i64 zg] w fun e w' => e = .returned (.tuple #[.pointer none, .int .i64 2]) ∧ Below w.heap.size w w' := by
  subst hzg
  refine (cread_any a n c bs _ w h hl hn hc (by omega)).mono ?_
  rintro e w' ⟨(⟨hb, _⟩ | ⟨_, _, _, he⟩ | ⟨_, _, rs', S', qs', g, hr, _, _⟩), hb'⟩
  · omega
  · exact ⟨he, hb'⟩
  · exact absurd hr (hno rs' S' qs')
end Go.Proofs.Ytcegoenlajkgfaa
end
section

/- What law 15 asks first: a mark, and a change there. No condition. -/
namespace Go.Proofs.Ytcegoenlajkgfaa
open Go.RowKit Go.Lib

def planK : PlanL := ⟨[4, 5], [[0, 0, 0, 0, 1, 2], [0, 0, 0, 0, 1, 2]], [(0, 0, 65535, 65535), (0, 32768, 65535, 65535), (0, 0, 0, 65535)], 2⟩
def bytesK : List UInt8 := [0, 0, 0, 6, 0, 0, 0, 20, 0, 0, 0, 30, 0, 0, 0, 54, 0, 0, 0, 78, 0, 8, 0, 0, 0, 2, 0, 4, 0, 5, 0, 0, 0, 0, 0, 0, 0, 0, 0, 1, 0, 2, 0, 0, 0, 0, 0, 0, 0, 0, 0, 1, 0, 2, 0, 0, 0, 0, 255, 255, 255, 255, 0, 0, 128, 0, 255, 255, 255, 255, 0, 0, 0, 0, 0, 0, 255, 255, 0, 0, 0, 4, 0, 8, 0, 0, 0, 1, 0, 7]
theorem planK_bytes : ctxB planK [[7]] = bytesK := by decide
def rsK : List RP := rowsT 0 2 6 2
def qK : List RP := rowsT 0 1 6 2
theorem okK : COk bytesK 9 rsK 2 [qK] := by
  refine ⟨⟨by decide, by decide, by decide, ?_, by decide, by decide, ⟨by unfold MClosed; decide, fun S' h => h.1⟩, by decide, by decide⟩, by decide, by decide, by decide +kernel, fun i q h => ?_⟩
  · refine ⟨.eight (by decide) (by decide) (by decide), ?_⟩
    exact (ok_rowsT _ _ _ _ _ (by decide)).2 (by decide)
  · match i, h with
    | 0, h =>
      simp at h
      subst h
      refine ⟨by decide, by decide, ⟨.eight (by decide) (by decide) (by decide), ?_⟩⟩
      exact (ok_rowsT _ _ _ _ _ (by decide)).2 (by decide)
    | n + 1, h => simp at h
theorem runK : (ctxD bytesK rsK (lkC bytesK [qK]) [(0, 0), (1, 1)]).1.1 = [(7, 0), (1, 1)] ∧ (ctxD bytesK rsK (lkC bytesK [qK]) [(0, 0), (1, 1)]).2.2 = 0 := by
  constructor <;> decide +kernel
theorem writeK (aC aR aE aS : Option Addr) (rv sv : List Value) (cC cR cE cS : Nat) (w : World) (h : PlanHas w planK aC aR rv aE) (hS : SubsHas w aS [[7]] sv) :
    Calls Try.prog 14 #[.agg #[.slice aC 2 cC, .slice aR 2 cR, .slice aE 3 cE, .int .u8 2], .slice aS 1 cS] w fun e w' => ∃ a' c', e = .returned (.slice a' 90 c') ∧ w'.ownsRow w.heap.size 5 1 (.slice a' 90 c') 90 (bytesV bytesK) ∧ 90 ≤ c' ∧ c' ≤ maxLen ∧ Below w.heap.size w w' := by
  have := write15_any planK aC aR aE rv cC cR cE aS 1 cS [[7]] sv w h (by decide) (by decide) (by decide) (by
    intro e he
    simp only [planK, List.mem_cons, List.not_mem_nil, or_false] at he
    rcases he with rfl | rfl | rfl <;> · unfold wfI; decide) hS rfl (by decide) (by decide) (by decide)
  rw [planK_bytes] at this
  refine this.mono ?_
  rintro e w' ⟨a', c', h1, h2, h3, h4, _, h6⟩
  exact ⟨a', c', h1, h2, h3, h4, h6⟩
theorem runK_any (B gt gl : Nat) (a : Option Addr) (c : Nat) (w : World) {Bm : Nat} (hT : CIs Bm gt bytesK rsK 2 [qK] w) (hG : GIs B gl a c [(0, 0), (1, 1)] w) (hB : B ≤ w.heap.size) :
    Calls Try.prog 18 #[.pointer (some ⟨gt, 0, none⟩), .pointer (some ⟨gl, 0, none⟩)] w fun e w' => e = .returned (.int .i64 0) ∧ (∃ a' c', GIs B gl a' c' [(7, 0), (1, 1)] w') ∧ Below B w w' := by
  refine (crun_any Bm gt bytesK 9 rsK 2 [qK] B gl a c [(0, 0), (1, 1)] w hT okK (by decide) (by decide) hG hB (by unfold IdsOk; decide) (by decide)).mono ?_
  rintro e w' ⟨rfl, ⟨a', c', hg, _⟩, hk⟩
  rw [runK.1] at hg
  rw [runK.2]
  exact ⟨rfl, ⟨a', c', hg⟩, hk.below⟩
set_option maxRecDepth 100000 in
set_option maxHeartbeats 6400000 in
theorem speaks15_any (w : World) : Calls Try.prog 12 #[] w fun e w' => e = .returned (.bool true) ∧ Below w.heap.size w w' := by
  have hAC := allocC
  have hAF := allocF
  go_enter Try.func12, Try.ntmps12
  go_wp2_with fail
  obtain ⟨w1, h1⟩ : ∃ w1, w1 = w.alloc (Obj.cells #[.int .u8 4, .int .u8 5] 5) := ⟨_, rfl⟩
  obtain ⟨w2, h2⟩ : ∃ w2, w2 = w1.alloc (Obj.cells #[.int .u8 0, .int .u8 0, .int .u8 0, .int .u8 0, .int .u8 1, .int .u8 2] 5) := ⟨_, rfl⟩
  obtain ⟨w3, h3⟩ : ∃ w3, w3 = w2.alloc (Obj.cells #[.int .u8 0, .int .u8 0, .int .u8 0, .int .u8 0, .int .u8 1, .int .u8 2] 5) := ⟨_, rfl⟩
  obtain ⟨w4, h4⟩ : ∃ w4, w4 = w3.alloc (Obj.cells #[.slice (some ⟨w1.heap.size, 0, none⟩) 6 6, .slice (some ⟨w2.heap.size, 0, none⟩) 6 6] 22) := ⟨_, rfl⟩
  obtain ⟨w5, h5⟩ : ∃ w5, w5 = w4.alloc (Obj.cells #[.int .i64 0, .int .i64 0, .int .i64 65535, .int .i64 65535, .int .i64 0, .int .i64 32768, .int .i64 65535, .int .i64 65535, .int .i64 0, .int .i64 0, .int .i64 0, .int .i64 65535] 60) := ⟨_, rfl⟩
  obtain ⟨w6, h6⟩ : ∃ w6, w6 = w5.alloc (Obj.cells #[.slice (some ⟨w.heap.size, 0, none⟩) 2 2, .slice (some ⟨w3.heap.size, 0, none⟩) 2 2, .slice (some ⟨w4.heap.size, 0, none⟩) 3 3, .int .u8 2] 26) := ⟨_, rfl⟩
  obtain ⟨w7, h7⟩ : ∃ w7, w7 = w6.alloc (Obj.cells #[.int .u16 7] 63) := ⟨_, rfl⟩
  obtain ⟨w8, h8⟩ : ∃ w8, w8 = w7.alloc (Obj.cells #[.slice (some ⟨w6.heap.size, 0, none⟩) 1 1] 62) := ⟨_, rfl⟩
  have z1 : w1.heap.size = w.heap.size + 1 := by rw [h1]; simp
  have z2 : w2.heap.size = w1.heap.size + 1 := by rw [h2]; simp
  have z3 : w3.heap.size = w2.heap.size + 1 := by rw [h3]; simp
  have z4 : w4.heap.size = w3.heap.size + 1 := by rw [h4]; simp
  have z5 : w5.heap.size = w4.heap.size + 1 := by rw [h5]; simp
  have z6 : w6.heap.size = w5.heap.size + 1 := by rw [h6]; simp
  have z7 : w7.heap.size = w6.heap.size + 1 := by rw [h7]; simp
  have b1 : Below w.heap.size w w1 := by rw [h1]; exact balloc (brefl w) _
  have b2 : Below w1.heap.size w1 w2 := by rw [h2]; exact balloc (brefl w1) _
  have b3 : Below w2.heap.size w2 w3 := by rw [h3]; exact balloc (brefl w2) _
  have b4 : Below w3.heap.size w3 w4 := by rw [h4]; exact balloc (brefl w3) _
  have b5 : Below w4.heap.size w4 w5 := by rw [h5]; exact balloc (brefl w4) _
  have b6 : Below w5.heap.size w5 w6 := by rw [h6]; exact balloc (brefl w5) _
  have b7 : Below w6.heap.size w6 w7 := by rw [h7]; exact balloc (brefl w6) _
  have b8 : Below w7.heap.size w7 w8 := by rw [h8]; exact balloc (brefl w7) _
  have b68 : Below w6.heap.size w6 w8 := b7.trans (b8.mono b7.size)
  have b58 : Below w5.heap.size w5 w8 := b6.trans (b68.mono b6.size)
  have b48 : Below w4.heap.size w4 w8 := b5.trans (b58.mono b5.size)
  have b38 : Below w3.heap.size w3 w8 := b4.trans (b48.mono b4.size)
  have b28 : Below w2.heap.size w2 w8 := b3.trans (b38.mono b3.size)
  have b18 : Below w1.heap.size w1 w8 := b2.trans (b28.mono b2.size)
  have HP := Lib.hid (show PlanHas w8 planK (some ⟨w.heap.size, 0, none⟩) (some ⟨w3.heap.size, 0, none⟩) [.slice (some ⟨w1.heap.size, 0, none⟩) 6 6, .slice (some ⟨w2.heap.size, 0, none⟩) 6 6] (some ⟨w4.heap.size, 0, none⟩) from ⟨by
      have := has_alloc w #[.int .u8 4, .int .u8 5] 5
      rw [← h1] at this
      exact this.below b18, by
      have := has_alloc w3 #[.slice (some ⟨w1.heap.size, 0, none⟩) 6 6, .slice (some ⟨w2.heap.size, 0, none⟩) 6 6] 22
      rw [← h4] at this
      exact this.below b48, rfl, by
      have g2 := has_alloc w1 #[.int .u8 0, .int .u8 0, .int .u8 0, .int .u8 0, .int .u8 1, .int .u8 2] 5
      have g3 := has_alloc w2 #[.int .u8 0, .int .u8 0, .int .u8 0, .int .u8 0, .int .u8 1, .int .u8 2] 5
      rw [← h2] at g2
      rw [← h3] at g3
      intro i r hr
      match i, hr with
      | 0, hr => simp [planK] at hr; subst hr; exact ⟨_, 6, rfl, g2.below b28⟩
      | 1, hr => simp [planK] at hr; subst hr; exact ⟨_, 6, rfl, g3.below b38⟩
      | n + 2, hr => simp [planK] at hr, by
      have := has_alloc w4 #[.int .i64 0, .int .i64 0, .int .i64 65535, .int .i64 65535, .int .i64 0, .int .i64 32768, .int .i64 65535, .int .i64 65535, .int .i64 0, .int .i64 0, .int .i64 0, .int .i64 65535] 60
      rw [← h5] at this
      exact this.below b58⟩)
  have HSB := Lib.hid (show SubsHas w8 (some ⟨w7.heap.size, 0, none⟩) [[7]] [.slice (some ⟨w6.heap.size, 0, none⟩) 1 1] from ⟨by
      have := has_alloc w7 #[.slice (some ⟨w6.heap.size, 0, none⟩) 1 1] 62
      rw [← h8] at this
      exact this, rfl, by
      have g := has_alloc w6 #[.int .u16 7] 63
      rw [← h7] at g
      intro i r hr
      match i, hr with
      | 0, hr => simp at hr; subst hr; exact ⟨_, 1, rfl, g.below b8⟩
      | n + 1, hr => simp at hr⟩)
  have HB8 := Lib.hid (show Below w.heap.size w w8 from b1.trans (b18.mono b1.size))
  rw [← h1, ← h2, ← h3, ← z1, ← z2, ← z3, ← h4, ← z4, ← h5, ← h6, ← z5, ← z6, ← h7, ← z7, ← h8]
  clear h1 h2 h3 h4 h5 h6 h7 h8 b1 b2 b3 b4 b5 b6 b7 b8 b68 b58 b48 b38 b28 b18 z1 z2 z3 z4 z5 z6 z7
  have HW := Lib.hid (writeK (some ⟨w.heap.size, 0, none⟩) (some ⟨w3.heap.size, 0, none⟩) (some ⟨w4.heap.size, 0, none⟩) (some ⟨w7.heap.size, 0, none⟩) [.slice (some ⟨w1.heap.size, 0, none⟩) 6 6, .slice (some ⟨w2.heap.size, 0, none⟩) 6 6] [.slice (some ⟨w6.heap.size, 0, none⟩) 1 1] 2 2 3 1 w8 HP.out HSB.out)
  have e01 : newG [0, 1] = [(0, 0), (1, 1)] := by rfl
  refine HW.out.mono ?_
  rintro e w9 ⟨a9, c9, rfl, ho9, k9, k99, hb9⟩
  have HH9 := Lib.hid (has_of_owns ho9)
  have HB9 := Lib.hid (HB8.out.trans (hb9.mono HB8.out.size))
  clear ho9 hb9
  go_wp2_with (first
    | (go_at_call 15; (with_reducible refine (cread_some a9 90 c9 bytesK 9 9 rfl rsK 2 [qK] w9 HH9.out rfl k9 k99 (by decide) (by decide) okK).mono ?_); rintro e w10 ⟨gt, rfl, hT, hb10⟩; have HT := Lib.hid hT; have HB10 := Lib.hid (HB9.out.trans (hb10.mono HB9.out.size)); clear hT hb10)
    | (go_at_call 17; (with_reducible refine (gnew_any (some ⟨w10.heap.size, 0, none⟩) 2 2 [0, 1] (w10.alloc (.cells #[.int .i64 0, .int .i64 1] 3)) (has_alloc w10 _ _) rfl (by decide)).mono ?_); rintro e w11 ⟨gl, a11, c11, rfl, hG, hgl, hb11⟩; rw [e01] at hG; have hb78 := (balloc (brefl w10) (.cells #[.int .i64 0, .int .i64 1] 3)).trans (hb11.mono (by simp)); have HT11 := Lib.hid (HT.out.below hb78); have HB11 := Lib.hid (HB10.out.trans (hb78.mono HB10.out.size)); have HG11 := Lib.hid (hG.mono (show w.heap.size ≤ _ from by have := HB10.out.size; simp only [World.size_alloc]; omega)); have HX := Lib.hid (runK_any w.heap.size gt gl a11 c11 w11 HT11.out HG11.out HB11.out.size); clear hG hb11 hb78 hgl)
    | (go_at_call 18; (with_reducible refine HX.out.mono ?_); rintro e w12 ⟨rfl, ⟨a12, c12, hG⟩, hb12⟩; have HG12 := Lib.hid hG; have HB12 := Lib.hid (HB11.out.trans hb12); clear hG hb12)
    | (go_at_call 21; (with_reducible refine (gglyphs_any w.heap.size gl a12 c12 _ w12 HG12.out (by decide)).mono ?_); rintro e w13 ⟨a13, c13, rfl, ho, _, _, _, hb13⟩; have HH13 := Lib.hid (has_of_owns ho); have HB13 := Lib.hid (HB12.out.trans (hb13.mono HB12.out.size)); clear ho hb13)
    | (go_at_call 22; (refine (refSameG_any a13 (some ⟨w13.heap.size, 0, none⟩) 2 c13 2 2 [(7, 0), (1, 1)] [(7, 0), (1, 1)] (w13.alloc (.cells #[.int .i64 7, .int .i64 0, .int .i64 1, .int .i64 1] 57)) (HH13.out.below (balloc (brefl w13) _)) rfl (has_alloc w13 #[.int .i64 7, .int .i64 0, .int .i64 1, .int .i64 1] 57) rfl (by decide) (by decide)).mono ?_); rintro e w14 ⟨rfl, hb14⟩; rw [decide_eq_true rfl]; have HB14 := Lib.hid (HB13.out.trans ((balloc (brefl w13) (.cells #[.int .i64 7, .int .i64 0, .int .i64 1, .int .i64 1] 57)).trans (hb14.mono (by simp)) |>.mono HB13.out.size)); clear hb14))
  go_ret
  exact ⟨rfl, HB14.out⟩
theorem newG_idsC {ids : List Int} (h : ∀ z ∈ ids, -9223372036854775808 ≤ z ∧ z ≤ 9223372036854775807) : IdsOk (newG ids) := by
  intro p hp
  obtain ⟨k, hk⟩ := List.mem_iff_getElem?.1 hp
  rw [newG_get] at hk
  cases hz : ids[k]? with
  | none => rw [hz] at hk; cases hk
  | some z =>
    rw [hz] at hk
    cases hk
    exact h z (List.mem_of_getElem? hz)
end Go.Proofs.Ytcegoenlajkgfaa
end
section

/- The document's subtable of layer 15 beside the code's: what both read of bytes, and what their lookups give; clusters stay. Conditions: as each says. -/
namespace Go.Proofs.Ytcegoenlajkgfaa
open Go.RowKit Go.Lib


theorem SubsIs.keptLt {own : Nat → Nat → Prop} {glyphs : Nat} {aS : Option Addr} {l : List SubD} {w0 w w' : World} (h0 : SubsIs glyphs aS l w0) (h : SubsIs glyphs aS l w) (hk : KeptO own w w') (hn : ∀ k t, k < w0.heap.size → ¬ own k t) : SubsIs glyphs aS l w' :=
  ⟨h0.has.keptLt h.has hk hn, fun s hs => ⟨(h0.each s hs).has.keptLt (h.each s hs).has hk hn, (h0.each s hs).rows.keptLt (h.each s hs).rows hk hn, (h.each s hs).len, (h.each s hs).few, (h.each s hs).g2, (h.each s hs).lk⟩⟩
theorem lkS_lkC {a : Option Addr} {n c : Nat} {bs : List UInt8} {glyphs : Nat} {subs : List SubD} (hh : ∀ i s, subs[i]? = some s → SubHere a n c bs glyphs i s) (hg : glyphs ≤ 65535) : lkS subs = lkC bs (subs.map SubD.rs) := by
  funext k id
  unfold lkS lkC
  rw [List.getElem?_map]
  cases hs : subs[k]? with
  | none => rfl
  | some s =>
    have h := hh k s hs
    show refG s.bs s.rs id = lkR (bs.drop (offC bs k)) s.rs id
    rw [h.eb]
    exact lkR_ref h.lk.ok hg id
/-- The document's Read, of bytes that begin with such a subtable. -/
theorem refcread_yes (a : Option Addr) (n c : Nat) (bs : List UInt8) (glyphs : Nat) (zg : Int) (hzg : zg = (glyphs : Nat)) (rs : List RP) (S : Nat) (qs : List (List RP)) (w : World) (h : Has w a (bytesV bs)) (hl : bs.length = n) (hn : n ≤ c) (hc : c ≤ maxLen) (h20 : n ≤ 4000) (hg1 : 1 ≤ glyphs) (hg2 : glyphs ≤ 65535) (hok : COk bs glyphs rs S qs) :
    Calls Try.prog 16 #[.slice a n c, .int .i64 zg] w fun e w' => ∃ a' c' aS cS subs, subs.map SubD.rs = qs ∧ e = .returned (.tuple #[.agg ((mrefV a n c bs 2 rs S a' c').push (.slice aS subs.length cS)), .bool true]) ∧ MRf a n c bs glyphs 2 rs S a' w' ∧ SubsIs glyphs aS subs w' ∧ (∀ i s, subs[i]? = some s → SubHere a n c bs glyphs i s) ∧ Below w.heap.size w w' := by
  refine (refcread_some a n c bs glyphs zg hzg rs S w h hl hn hc h20 hg1 hg2 hok.mok).mono ?_
  rintro e w' ⟨(⟨rs', S', qs', a', c', aS, cS, subs, ho, hq, he, h1, h2, h3⟩ | ⟨hno, _⟩), hb⟩
  · obtain ⟨rfl, rfl, rfl⟩ := hok.det ho
    exact ⟨a', c', aS, cS, subs, hq, he, h1, h2, h3, hb⟩
  · exact absurd hok (hno rs S qs)
theorem refcread_no (a : Option Addr) (n c : Nat) (bs : List UInt8) (glyphs : Nat) (zg : Int) (hzg : zg = (glyphs : Nat)) (w : World) (h : Has w a (bytesV bs)) (hl : bs.length = n) (hn : n ≤ c) (hc : c ≤ maxLen) (h20 : n ≤ 4000) (hg1 : 1 ≤ glyphs) (hg2 : glyphs ≤ 65535) (hno : ∀ rs S qs, ¬ COk bs glyphs rs S qs) :
    Calls Try.prog 16 #[.slice a n c, .int .i64 zg] w fun e w' => (∃ a0 n0 c0 i1 i2 i3 i4 i5 i6 a7 n7 c7 a8 n8 c8 a9 n9 c9, e = .returned (.tuple #[.agg #[.slice a0 n0 c0, .int .i64 i1, .int .i64 i2, .int .i64 i3, .int .i64 i4, .int .i64 i5, .int .i64 i6, .slice a7 n7 c7, .slice a8 n8 c8, .slice a9 n9 c9], .bool false])) ∧ Below w.heap.size w w' := by
  have key : Calls Try.prog 16 #[.slice a n c, .int .i64 zg] w (CReadIs a n c bs glyphs w) := by
    by_cases hm : ∃ rs S, MOk bs glyphs 2 rs S
    · obtain ⟨rs, S, hm⟩ := hm
      exact refcread_some a n c bs glyphs zg hzg rs S w h hl hn hc h20 hg1 hg2 hm
    · exact refcread_none a n c bs glyphs zg hzg w h hl hn hc h20 hg1 hg2 (fun rs S h => hm ⟨rs, S, h⟩)
  refine key.mono ?_
  rintro e w' ⟨(⟨rs', S', qs', a', c', aS, cS, subs, ho, _⟩ | ⟨_, he⟩), hb⟩
  · exact absurd ho (hno rs' S' qs')
  · exact ⟨he, hb⟩
theorem ctxB_len (p : PlanL) (subs : List (List Nat)) (hC : p.cls.length ≤ 40) (hR : p.rows.length ≤ 20) (hE : p.ents.length ≤ 40) (hS : subs.length ≤ 20) (hlen : ∀ r ∈ subs, r.length ≤ 60) : (ctxB p subs).length ≤ 4000 := by
  have h1 : (planB p 2 4).length = 22 + 4 + 2 * p.cls.length + 2 * (p.rows.length * p.n) + p.ents.length * 8 := by
    simp only [planB, ofB, List.length_append, beN_length, List.length_replicate, clsB_length, rowsPB_length, entsPB_length 2 _ (by decide)]
    omega
  have h2 : p.rows.length * p.n ≤ 20 * 11 := Nat.mul_le_mul hR (by unfold PlanL.n; omega)
  have h3 : (lksB subs).length ≤ 126 * subs.length := by
    clear hS
    induction subs with
    | nil => simp [lksB]
    | cons r l ih =>
      have h1 := hlen r (by simp)
      have h2 := ih (fun x hx => hlen x (by simp [hx]))
      simp only [lksB, List.flatMap_cons, List.length_append, List.length_cons, sub8_length] at *
      omega
  unfold ctxB
  rw [List.length_append, length_splice _ 16 _ (by rw [List.length_append, beN_length]; omega), List.length_append, offsB_length]
  omega
end Go.Proofs.Ytcegoenlajkgfaa
end
section

/- A subtable of layer 15 whose entries name no lookup, or whose lookups have no glyph: its bytes, and that it changes no line. Conditions: a plan of a machine; the bytes' places below 65536. No walk. -/
namespace Go.Proofs.Ytcegoenlajkgfaa
open Go.RowKit Go.Lib

/-- What stays at each step that a machine can take stays. -/
theorem runD_stays {X : Type} (P : X → Prop) (S C : Nat) {cl : X → Nat → Nat} {en : Nat → Nat → Ent} {fin : X → Nat → Bool} {act : X → Nat → Ent → X × Int × Int} (hC : ∀ x z, cl x z < C) (hE : ∀ s c, s < S → c < C → (en s c).1 < S) (hs : ∀ x z s c, P x → s < S → c < C → P (act x z (en s c)).1) : ∀ fu x now z re st, now < S → P x → P (runD cl en fin act fu x now z re st).1 := by
  intro fu
  induction fu with
  | zero => intro x now z re st _ h; exact h
  | succ fu ih =>
    intro x now z re st hn h
    unfold runD
    dsimp only
    have h1 := hs x z now (cl x z) h hn (hC x z)
    have h2 := hE now (cl x z) hn (hC x z)
    split
    · split
      · exact h1
      · exact ih _ _ _ _ _ h2 h1
    · split
      · exact h1
      · exact ih _ _ _ _ _ h2 h1
theorem num_splice (L D : List UInt8) (o k s : Nat) (ho : o + D.length ≤ L.length) (h : k + s ≤ o ∨ o + D.length ≤ k) : num (splice L o D) k s = num L k s := by
  have hs : splice L o D = L.take o ++ D ++ L.drop (o + D.length) := by simp only [splice, List.append_assoc]
  rcases h with h | h
  · rw [hs, List.append_assoc, numL _ _ _ _ (by rw [List.length_take]; omega)]
    exact num_takeS L o k s h
  · obtain ⟨j, rfl⟩ : ∃ j, k = o + D.length + j := ⟨k - (o + D.length), by omega⟩
    rw [hs, numR _ _ _ j _ (by rw [List.length_append, List.length_take]; omega), num_dropS]
theorem num_spliceIn (L D : List UInt8) (o s : Nat) (ho : o + D.length ≤ L.length) (h : s ≤ D.length) : num (splice L o D) o s = num D 0 s := by
  have hs : splice L o D = L.take o ++ (D ++ L.drop (o + D.length)) := by simp only [splice, List.append_assoc]
  rw [hs, numR _ _ _ 0 _ (by rw [List.length_take]; omega), numL _ _ _ _ (by omega)]
/-- The bytes before the lookups. -/
theorem ctxB_num (p : PlanL) (subs : List (List Nat)) (k s : Nat) (hk : k + s ≤ 16 ∨ 20 ≤ k) (h : k + s ≤ (planB p 2 4).length) (h26 : 26 ≤ (planB p 2 4).length) : num (ctxB p subs) k s = num (planB p 2 4) k s := by
  unfold ctxB
  rw [numL _ _ _ _ (by rw [length_splice _ _ _ (by rw [beN_length, List.length_append]; omega), List.length_append]; omega), num_splice _ _ _ _ _ (by rw [beN_length, List.length_append]; omega) (by rw [beN_length]; omega), numL _ _ _ _ h]
theorem entPB_A (e : Int × Int × Int × Int) (Z : List UInt8) : num (entPB 2 e ++ Z) 4 2 = m16 e.2.2.1 ∧ num (entPB 2 e ++ Z) 6 2 = m16 e.2.2.2 := by
  unfold entPB
  rw [if_pos (by decide), if_pos (by decide)]
  simp only [List.append_assoc]
  refine ⟨?_, ?_⟩
  · rw [numR _ _ 4 2 2 (by rw [beN_length]), numR _ _ 2 0 2 (by rw [beN_length]), numB2 _ _ (m16_lt _)]
  · rw [numR _ _ 6 4 2 (by rw [beN_length]), numR _ _ 4 2 2 (by rw [beN_length]), numR _ _ 2 0 2 (by rw [beN_length]), numB2 _ _ (m16_lt _)]
theorem entsPB_A : ∀ (l : List (Int × Int × Int × Int)) (j : Nat) (e : Int × Int × Int × Int), l[j]? = some e → num (entsPB 2 l) (j * 8 + 4) 2 = m16 e.2.2.1 ∧ num (entsPB 2 l) (j * 8 + 6) 2 = m16 e.2.2.2
  | [], j, e, h => by simp at h
  | x :: l, 0, e, h => by
    simp at h
    subst h
    rw [Nat.zero_mul, Nat.zero_add, show entsPB 2 (x :: l) = entPB 2 x ++ entsPB 2 l from rfl]
    exact entPB_A x _
  | x :: l, j + 1, e, h => by
    have hl : (entPB 2 x).length = 8 := entPB_length 2 x (by decide)
    rw [show entsPB 2 (x :: l) = entPB 2 x ++ entsPB 2 l from rfl, numR _ _ ((j + 1) * 8 + 4) (j * 8 + 4) _ (by omega), numR _ _ ((j + 1) * 8 + 6) (j * 8 + 6) _ (by omega)]
    exact entsPB_A l j e (by simpa using h)
theorem ctxB_entA (p : PlanL) (subs : List (List Nat)) (h : 26 + 2 * p.cls.length + 2 * (p.rows.length * p.n) ≤ 65535) (j : Nat) (e : Int × Int × Int × Int) (he : p.ents[j]? = some e) : (entW (ctxB p subs) j).2.2.1 = m16 e.2.2.1 ∧ (entW (ctxB p subs) j).2.2.2 = m16 e.2.2.2 := by
  have hlen := planB_length p 2 4 (by decide)
  have hj : j < p.ents.length := (List.getElem?_eq_some_iff.1 he).1
  have h12 : num (ctxB p subs) 12 4 = 26 + 2 * p.cls.length + 2 * (p.rows.length * p.n) := by
    rw [ctxB_num p subs 12 4 (by omega) (by omega) (by omega), plan_ents p 2 4 (by omega)]
  have key : ∀ i, num ((planB p 2 4)) (26 + 2 * p.cls.length + 2 * (p.rows.length * p.n) + i) 2 = num (entsPB 2 p.ents) i 2 := by
    intro i
    unfold planB
    rw [numR _ _ _ i _ (by simp only [ofB, List.length_append, beN_length, List.length_replicate, clsB_length, rowsPB_length]; omega)]
  obtain ⟨k1, k2⟩ := entsPB_A p.ents j e he
  unfold entW entX
  rw [h12]
  simp only [num_dropS]
  rw [if_pos (by decide), if_pos (by decide)]
  refine ⟨?_, ?_⟩
  · rw [ctxB_num p subs _ _ (by omega) (by omega) (by omega), key]
    exact k1
  · rw [ctxB_num p subs _ _ (by omega) (by omega) (by omega), key]
    exact k2
/-- Which entries name no lookup. -/
def idleC (which : Bool) (e : Int × Int × Int × Int) : Int × Int × Int × Int := if which then (e.1, e.2.1, 65535, 65535) else e
def PlanL.idleC (p : PlanL) (which : Bool) : PlanL := ⟨p.cls, p.rows, p.ents.map (Go.Proofs.Ytcegoenlajkgfaa.idleC which), p.wide⟩
theorem swG_none (lk : Nat → Int → Nat × Bool) (hlk : ∀ k id, (lk k id).2 = false) (l : List (Int × Int)) (i : Int) (which : Nat) : swG lk l i which = l := by
  unfold swG
  split
  · rfl
  split
  · rw [if_neg (by rw [hlk]; decide)]
  · rfl
theorem swG_65 (lk : Nat → Int → Nat × Bool) (l : List (Int × Int)) (i : Int) : swG lk l i 65535 = l := by
  unfold swG
  rw [if_pos rfl]
theorem nilB_length : ∀ n, (lksB (List.replicate n [])).length = 6 * n
  | 0 => rfl
  | n + 1 => by
    have h : lksB (List.replicate (n + 1) []) = sub8 [] ++ lksB (List.replicate n []) := rfl
    rw [h, List.length_append, nilB_length n, sub8_length, List.length_nil]
    omega
theorem nilB_drop : ∀ n i, i < n → ∃ Z, (lksB (List.replicate n [])).drop (6 * i) = sub8 [] ++ Z
  | 0, i, h => by omega
  | n + 1, 0, _ => ⟨lksB (List.replicate n []), rfl⟩
  | n + 1, i + 1, h => by
    have e : lksB (List.replicate (n + 1) []) = sub8 [] ++ lksB (List.replicate n []) := rfl
    obtain ⟨Z, hZ⟩ := nilB_drop n i (by omega)
    refine ⟨Z, ?_⟩
    rw [e, ← hZ, show 6 * (i + 1) = (sub8 []).length + 6 * i from by rw [sub8_length, List.length_nil]; omega, ← List.drop_drop, List.drop_left]
theorem offs_num (m : Nat) (subs : List (List Nat)) (i : Nat) (hb : 4 * m + (lksB (subs.take i)).length ≤ 65535) : ∀ j, i < j → num (offsB m subs j) (4 * i) 4 = 4 * m + (lksB (subs.take i)).length
  | 0, h => by omega
  | j + 1, h => by
    rw [offsB_snoc]
    by_cases hj : i < j
    · rw [numL _ _ _ _ (by rw [offsB_length]; omega)]
      exact offs_num m subs i hb j hj
    · obtain rfl : i = j := by omega
      rw [numR _ _ _ 0 _ (by rw [offsB_length]; rfl)]
      have := numB4 (4 * m + (lksB (subs.take i)).length) [] hb
      rwa [List.append_nil] at this
theorem nil8_ok (Z : List UInt8) : LkOk (sub8 [] ++ Z) 40 2 [] := by
  have hl : (sub8 []).length = 6 := rfl
  have n1 : num (sub8 [] ++ Z) 0 2 = 8 := by rw [numL _ _ _ _ (by omega)]; decide
  have n2 : num (sub8 [] ++ Z) 2 2 = 0 := by rw [numL _ _ _ _ (by omega)]; decide
  have n3 : num (sub8 [] ++ Z) 4 2 = 0 := by rw [numL _ _ _ _ (by omega)]; decide
  have := LkRows.eight (bs := sub8 [] ++ Z) (glyphs := 40) (size := 2) (by rw [List.length_append]; omega) n1 (by omega)
  rw [n3] at this
  exact ⟨this, fun i r h => by simp at h⟩
theorem ctx_nil (p : PlanL) (nS : Nat) {rs : List RP} {S : Nat} {qs : List (List RP)} (hN : 26 ≤ (planB p 2 4).length ∧ (planB p 2 4).length ≤ 60000) (hS : nS ≤ 100) (hok : COk (ctxB p (List.replicate nS [])) 40 rs S qs) : ∀ k id, (lkC (ctxB p (List.replicate nS [])) qs k id).2 = false := by
  have hq : ∀ i q, qs[i]? = some q → LkC (ctxB p (List.replicate nS [])) 40 i q := hok.each
  obtain ⟨H, hH⟩ : ∃ H, H = splice (planB p 2 4 ++ offsB nS (List.replicate nS []) nS) 16 (beN 4 (planB p 2 4).length) := ⟨_, rfl⟩
  have hlr : (List.replicate nS ([] : List Nat)).length = nS := List.length_replicate
  have hbs : ctxB p (List.replicate nS []) = H ++ lksB (List.replicate nS []) := by rw [hH]; unfold ctxB; rw [hlr]
  have hL : (lksB (List.replicate nS [])).length = 6 * nS := nilB_length nS
  have hbl : (planB p 2 4 ++ offsB nS (List.replicate nS []) nS).length = (planB p 2 4).length + 4 * nS := by rw [List.length_append, offsB_length]
  have hHl : H.length = (planB p 2 4).length + 4 * nS := by rw [hH, length_splice _ _ _ (by rw [beN_length, hbl]; omega), hbl]
  have h16 : num (ctxB p (List.replicate nS [])) 16 4 = (planB p 2 4).length := by
    rw [hbs, numL _ _ _ _ (by omega), hH, num_spliceIn _ _ _ _ (by rw [beN_length, hbl]; omega) (by rw [beN_length]; decide)]
    have := numB4 (planB p 2 4).length [] (by omega)
    rwa [List.append_nil] at this
  have hoff : ∀ i, i < nS → offC (ctxB p (List.replicate nS [])) i = H.length + 6 * i := by
    intro i hi
    have ht : (lksB ((List.replicate nS ([] : List Nat)).take i)).length = 6 * i := by rw [List.take_replicate, Nat.min_eq_left (by omega)]; exact nilB_length i
    unfold offC
    rw [h16, hbs, numL _ _ _ _ (by omega), hH, num_splice _ _ _ _ _ (by rw [beN_length, hbl]; omega) (by rw [beN_length]; omega), numR _ _ _ (4 * i) _ rfl, offs_num nS _ i (by omega) nS hi, ht, ← hH, hHl]
    omega
  have hlen : qs.length ≤ nS := by
    by_cases h : qs.length ≤ nS
    · exact h
    exfalso
    have h1 := hq nS _ (List.getElem?_eq_getElem (by omega))
    have h2 := h1.at_
    have h3 := h1.off
    rw [h16, hbs, List.length_append, hHl, hL] at h2
    unfold offC at h3
    obtain ⟨n, rfl⟩ : ∃ n, nS = n + 1 := ⟨nS - 1, by omega⟩
    have e : lksB (List.replicate (n + 1) []) = sub8 [] ++ lksB (List.replicate n []) := rfl
    rw [h16, hbs, numR _ _ _ 0 _ (by omega), e, numL _ _ _ _ (by decide), ← e, List.length_append, hHl, hL, show num (sub8 []) 0 4 = 524288 from by decide] at h3
    omega
  intro k id
  unfold lkC
  split
  · rename_i q hk
    have hkn : k < nS := by have := (List.getElem?_eq_some_iff.1 hk).1; omega
    have h1 := (hq k q hk).ok
    obtain ⟨Z, hZ⟩ := nilB_drop nS k hkn
    have hd : (ctxB p (List.replicate nS [])).drop (offC (ctxB p (List.replicate nS [])) k) = sub8 [] ++ Z := by
      rw [hoff k hkn, hbs, ← List.drop_drop, List.drop_left, hZ]
    rw [hd] at h1 ⊢
    obtain rfl : q = [] := h1.det (nil8_ok Z)
    rw [← lkR_ref (nil8_ok Z) (by decide)]
    rfl
  · rfl
theorem ctxD_none {bs : List UInt8} {rs : List RP} (lk : Nat → Int → Nat × Bool) (hlk : ∀ k id, (lk k id).2 = false) (l : List (Int × Int)) : (ctxD bs rs lk l).1.1 = l := by
  unfold ctxD
  exact runD_keeps (fun x : KX => x.1 = l) (fun x z e h => by
    show lineC lk x.1 x.2 z e.2.2.1 e.2.2.2 = _
    unfold lineC
    rw [swG_none lk hlk, swG_none lk hlk]
    exact h) _ _ _ _ _ _ rfl
theorem ctxD_65 {bs : List UInt8} {rs : List RP} {S : Nat} (hok : MOk bs 40 2 rs S) (hF : ∀ j, j < needE bs S → (entW bs j).2.2.1 = 65535 ∧ (entW bs j).2.2.2 = 65535) (lk : Nat → Int → Nat × Bool) (l : List (Int × Int)) : (ctxD bs rs lk l).1.1 = l := by
  have hC4 : 4 ≤ num bs 0 4 := hok.cls.1
  have hS : 0 < S := by have := hok.least.closed.1; omega
  unfold ctxD
  refine runD_stays (fun x : KX => x.1 = l) S (num bs 0 4) (fun x z => clD_lt _ _ _ _ hC4) (fun s c hs hc => enM_next bs 2 hok hs hc) ?_ _ _ _ _ _ _ hS rfl
  intro x z s c hx hs hc
  obtain ⟨h1, h2⟩ := hF _ (ent_in hs hc)
  show lineC lk x.1 x.2 z (enM bs 2 s c).2.2.1 (enM bs 2 s c).2.2.2 = l
  rw [show (enM bs 2 s c).2.2.1 = 65535 from h1, show (enM bs 2 s c).2.2.2 = 65535 from h2]
  unfold lineC
  rw [swG_65, swG_65]
  exact hx
/-- The first j of a list changed. -/
def mapL {α : Type} (f : α → α) (l : List α) (j : Nat) : List α := (l.take j).map f ++ l.drop j
theorem mapL_zero {α : Type} (f : α → α) (l : List α) : mapL f l 0 = l := by simp [mapL]
theorem mapL_all {α : Type} (f : α → α) (l : List α) : mapL f l l.length = l.map f := by simp [mapL]
theorem mapL_get {α : Type} (f : α → α) (l : List α) (j : Nat) : (mapL f l j)[j]? = l[j]? := by
  by_cases h : j ≤ l.length
  · rw [mapL, List.getElem?_append_right (by simp [List.length_take]; omega)]
    simp [List.length_take, Nat.min_eq_left h]
  · rw [List.getElem?_eq_none (by simp [mapL, List.length_take, List.length_drop]; omega), List.getElem?_eq_none (by omega)]
theorem mapL_set {α : Type} (f : α → α) (l : List α) (j : Nat) (e : α) (h : l[j]? = some e) : (mapL f l j).set j (f e) = mapL f l (j + 1) := by
  have hlt := (List.getElem?_eq_some_iff.1 h).1
  have hge := (List.getElem?_eq_some_iff.1 h).2
  rw [mapL, mapL, List.take_add_one, h, List.set_append, if_neg (by simp [List.length_take]; omega)]
  rw [List.drop_eq_getElem_cons hlt, hge]
  simp [List.length_take, Nat.min_eq_left (Nat.le_of_lt hlt)]
theorem mapL_id {α : Type} (f : α → α) (hf : ∀ x, f x = x) (l : List α) (j : Nat) : mapL f l j = l := by
  obtain rfl : f = id := funext hf
  simp [mapL]
theorem entC4_set23 : ∀ (l : List (Int × Int × Int × Int)) (j : Nat) (z y : Int) (e : Int × Int × Int × Int), l[j]? = some e → ((l.flatMap entC4).set (j * 4 + 2) (.int .i64 z)).set (j * 4 + 3) (.int .i64 y) = (l.set j (e.1, e.2.1, z, y)).flatMap entC4
  | [], j, z, y, e, h => by simp at h
  | x :: l, 0, z, y, e, h => by simp at h; subst h; rfl
  | x :: l, j + 1, z, y, e, h => by
    have h2 : (j + 1) * 4 + 2 - (entC4 x).length = j * 4 + 2 := by simp [entC4]; omega
    have h3 : (j + 1) * 4 + 3 - (entC4 x).length = j * 4 + 3 := by simp [entC4]; omega
    have h4 : (entC4 x).length = 4 := rfl
    rw [List.flatMap_cons, List.set_append_right _ _ (by omega), h2, List.set_append_right _ _ (by omega), h3, entC4_set23 l j z y e (by simpa using h), List.set_cons_succ, List.flatMap_cons]
theorem idleC_wf (which : Bool) (l : List (Int × Int × Int × Int)) (h : ∀ e ∈ l, wfI e.1 ∧ wfI e.2.1 ∧ wfI e.2.2.1 ∧ wfI e.2.2.2) : ∀ e ∈ l.map (idleC which), wfI e.1 ∧ wfI e.2.1 ∧ wfI e.2.2.1 ∧ wfI e.2.2.2 := by
  intro e he
  obtain ⟨x, hx, rfl⟩ := List.mem_map.1 he
  obtain ⟨h1, h2, h3, h4⟩ := h x hx
  unfold idleC
  split
  · exact ⟨h1, h2, by unfold wfI; dsimp only; omega, by unfold wfI; dsimp only; omega⟩
  · exact ⟨h1, h2, h3, h4⟩
def nilV (n : Nat) : List Value := List.replicate n (.slice none 0 0)
theorem subsNil {W : World} {a : Option Addr} {n : Nat} (h : Has W a (nilV n)) : SubsHas W a (List.replicate n []) (nilV n) := by
  refine ⟨h, by simp [nilV], fun i r hr => ?_⟩
  rw [List.getElem?_replicate] at hr
  split at hr
  · rename_i hi
    injection hr with hr
    subst hr
    exact ⟨none, 0, by unfold nilV; rw [List.getElem?_replicate, if_pos hi]; rfl, fun j u hu => by simp [u16V] at hu⟩
  · cases hr
theorem nilV_snoc (n : Nat) : nilV n ++ [.slice none 0 0] = nilV (n + 1) := (List.replicate_succ' ..).symm
/-- Such a subtable changes no line. -/
theorem ctx_idle (which : Bool) (p : PlanL) (nS : Nat) (hC : p.cls.length ≤ 40) (hR : p.rows.length ≤ 20) (hE : p.ents.length ≤ 40) (hS : nS ≤ 20) {rs : List RP} {S : Nat} {qs : List (List RP)} (hok : COk (ctxB (p.idleC which) (List.replicate nS [])) 40 rs S qs) (hN : which = true → needE (ctxB (p.idleC which) (List.replicate nS [])) S ≤ p.ents.length) (l : List (Int × Int)) : (ctxD (ctxB (p.idleC which) (List.replicate nS [])) rs (lkC (ctxB (p.idleC which) (List.replicate nS [])) qs) l).1.1 = l := by
  have hn : (p.idleC which).n ≤ 11 := by unfold PlanL.n; omega
  have hm : (p.idleC which).rows.length * (p.idleC which).n ≤ 20 * 11 := Nat.mul_le_mul hR hn
  have hcl : (p.idleC which).cls.length ≤ 40 := hC
  have hel : (p.idleC which).ents.length = p.ents.length := List.length_map _
  have hlen := planB_length (p.idleC which) 2 4 (by decide)
  cases which with
  | false => exact ctxD_none _ (ctx_nil _ nS (by omega) (by omega) hok) l
  | true =>
    refine ctxD_65 hok.mok (fun j hj => ?_) _ l
    have hj2 := hN rfl
    obtain ⟨e, he⟩ : ∃ e, p.ents[j]? = some e := ⟨_, List.getElem?_eq_getElem (by omega)⟩
    have := ctxB_entA (p.idleC true) (List.replicate nS []) (by omega) j (Go.Proofs.Ytcegoenlajkgfaa.idleC true e) (by rw [PlanL.idleC, List.getElem?_map, he]; rfl)
    rw [this.1, this.2]
    exact ⟨rfl, rfl⟩
end Go.Proofs.Ytcegoenlajkgfaa
end
