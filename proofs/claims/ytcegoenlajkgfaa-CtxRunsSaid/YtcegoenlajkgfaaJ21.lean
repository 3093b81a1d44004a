/- Joined from: CRun CRead CWrite. -/
import Derived.Test.YtcegoenlajkgfaaJ19
import Derived.Test.YtcegoenlajkgfaaJ20
import Derived.Test.YtcegoenlajkgfaaJ17
import Derived.Test.YtcegoenlajkgfaaJ01
import Derived.Test.YtcegoenlajkgfaaJ14
import Derived.Test.YtcegoenlajkgfaaJ04
import Derived.Test.YtcegoenlajkgfaaJ03
import Derived.Test.YtcegoenlajkgfaaJ16
section

/- ctx.Run: what a subtable that changes glyphs by what stands around them does to a line. Conditions: a subtable and a line in memory; sizes. -/
namespace Go.Proofs.Ytcegoenlajkgfaa
open Go.RowKit Go.Lib

/-- What the lookups of a list give. -/
def lkC (bs : List UInt8) (qs : List (List RP)) (which : Nat) (id : Int) : Nat × Bool := match qs[which]? with
  | some q => lkR (bs.drop (offC bs which)) q id
  | none => (0, false)
theorem lkC_of {bs : List UInt8} {qs : List (List RP)} {which : Nat} {q : List RP} (h : qs[which]? = some q) (id : Int) : lkC bs qs which id = lkR (bs.drop (offC bs which)) q id := by unfold lkC; rw [h]
theorem CIs.keepS {B B0 gt : Nat} {bs : List UInt8} {rs : List RP} {S : Nat} {qs : List (List RP)} {own : Nat → Nat → Prop} {w w' : World} (h : CIs B gt bs rs S qs w) (hk : KeepC B0 own w w') (hm : notM own) (h1 : ∀ k, ¬ own k 123) (h2 : ∀ k, ¬ own k 99) : CIs B gt bs rs S qs w' := by
  obtain ⟨g, go, ps, e1, e2, e3, e4, e5⟩ := h.is
  exact ⟨⟨g, go, ps, (hk.kept _ _ _ _ e1 (h2 _)).trans e1, e2.keepO hk hm, hk.owns e3 h1, e4, fun i q g hi hp => by obtain ⟨f, h⟩ := e5 i q g hi hp; exact ⟨f, h.keepC hk hm.2.2.2.2.1 hm.2.2.2.2.2.1 (hm.2.2.2.2.2.2 _)⟩⟩, h.ge⟩
theorem notM_S (bk : Option Nat) : notM (ownS bk) := ⟨ownS_no (by decide), ownS_no (by decide), ownS_no (by decide), ownS_no (by decide), ownS_no (by decide), ownS_no (by decide), ownS_no (by decide)⟩
def FitC (bs : List UInt8) (qs : List (List RP)) : Prop := ∀ i q, qs[i]? = some q → FitL (tabR (bs.drop (offC bs i)) q).1 (tabR (bs.drop (offC bs i)) q).2
set_option maxRecDepth 100000 in
set_option maxHeartbeats 1600000 in
theorem cchange_any (Bt gt : Nat) (bs : List UInt8) (rs : List RP) (S : Nat) (qs : List (List RP)) (B gl : Nat) (a : Option Addr) (c : Nat) (l : List (Int × Int)) (z : Int) (which : Nat) (w : World) (hC : CIs Bt gt bs rs S qs w) (hf : FitC bs qs) (hG : GIs B gl a c l w) (hB : B ≤ w.heap.size) (hids : IdsOk l) (hw : which = 65535 ∨ which < qs.length) (hq : qs.length ≤ 65535) :
    Calls Try.prog 48 #[.pointer (some ⟨gt, 0, none⟩), .pointer (some ⟨gl, 0, none⟩), .int .i64 z, .int .i64 (which : Nat)] w fun e w' => e = .returned (.tuple #[]) ∧ GIs B gl a c (swG (lkC bs qs) l z which) w' ∧ KeepC B (ownS (a.map (·.block))) w w' := by
  have hAC := allocC
  have hAF := allocF
  have hat := gat_any B gl a c l w hG z
  have HG := Lib.hid hG
  cases hin : inG l z with
  | false =>
    have hsw : swG (lkC bs qs) l z which = l := by
      unfold swG
      split
      · rfl
      · rw [if_neg (by rw [hin]; decide)]
    rw [hin, show atG l z = (0, 0) by rw [atG, if_neg (by rw [hin]; decide)]] at hat
    simp only [glyphA] at hat
    have HAT := Lib.hid hat
    have HS := Lib.hid hsw
    clear hat hsw hin hC hf hG hids hw hq
    go_enter Try.func48, Try.ntmps48
    go_wp2_with (go_at_call 49; (with_reducible refine HAT.out.mono ?_); rintro e w1 ⟨rfl, hb1⟩)
    (try simp only [Exit.inBlock, Exit.then])
    refine bodyPost_ret (results_none rfl _ _ _) rfl ?_
    rw [HS.out]
    exact ⟨rfl, HG.out.below (by exact blw), KeepC.of (by exact blw) hB⟩
  | true =>
    obtain ⟨j, p, rfl, hj⟩ := inG_yes hin
    have hatp := atG_of hj
    have hidp := hids p (List.mem_of_getElem? hj)
    have hset := gset_keep B gl a c l
    rw [hin, hatp] at hat
    obtain ⟨p1, p2⟩ := p
    simp only [glyphA] at hat hidp
    have HAT := Lib.hid hat
    have HSET := Lib.hid hset
    clear hat hset
    by_cases hN : which = 65535
    · have hsw : swG (lkC bs qs) l (j : Nat) which = l := by
        unfold swG
        rw [if_pos hN]
      have d1 : ((which : Int) == 65535) = true := by simp; omega
      have HS := Lib.hid hsw
      clear hsw hin hC hf hG hids hw hq hN hatp hj hidp
      go_enter Try.func48, Try.ntmps48
      go_wp2_with (go_at_call 49; (with_reducible refine HAT.out.mono ?_); rintro e w1 ⟨rfl, hb1⟩)
      (try simp only [Exit.inBlock, Exit.then])
      refine bodyPost_ret (results_none rfl _ _ _) rfl ?_
      rw [HS.out]
      exact ⟨rfl, HG.out.below (by exact blw), KeepC.of (by exact blw) hB⟩
    · have hlt : which < qs.length := by omega
      have d1 : ((which : Int) == 65535) = false := by simp; omega
      obtain ⟨q, hqq⟩ : ∃ q, qs[which]? = some q := ⟨_, List.getElem?_eq_getElem hlt⟩
      have HF := Lib.hid (hf which q hqq)
      have hsw : swG (lkC bs qs) l (j : Nat) which = if (lkR (bs.drop (offC bs which)) q p1).2 = true then setG l (j : Nat) ((lkR (bs.drop (offC bs which)) q p1).1 : Nat) else l := by
        unfold swG
        rw [if_neg hN, if_pos hin, hatp, lkC_of hqq]
      obtain ⟨g, go, ps, h1, h2, h3, h4, h5⟩ := hC.is
      obtain ⟨gq, hpq⟩ : ∃ gq, ps[which]? = some gq := ⟨_, List.getElem?_eq_getElem (by omega)⟩
      obtain ⟨fmt, ht⟩ := h5 which q gq hqq hpq
      have hcg : w.cell? ⟨go, which, none⟩ = some (.pointer (some ⟨gq, 0, none⟩)) := by
        obtain ⟨g0, cs, u, he, _, _, hc, _⟩ := row_at h3 which (by omega)
        have := h3.cellAt which (by omega)
        rw [List.getElem?_map, hpq] at this
        exact this
      have hgo := cell_lt hcg
      simp only at hgo
      have hgt := (Array.getElem?_eq_some_iff.1 h1).1
      have HC1 := Lib.hid h1
      have HCG := Lib.hid hcg
      have HT := Lib.hid ht
      have HS := Lib.hid hsw
      obtain ⟨NQ, hNQ⟩ : ∃ NQ, NQ = qs.length := ⟨_, rfl⟩
      rw [← hNQ] at hlt hq
      have HNQ := Lib.hid hNQ
      clear hNQ
      have HGT := Lib.hid (fun W (hW : Below w.heap.size w W) => show Calls Try.prog 64 #[.pointer (some ⟨gq, 0, none⟩), .int .i64 p1] W fun e w' => e = .returned (.tuple #[.int .i64 ((lkR (bs.drop (offC bs which)) q p1).1 : Nat), .bool (lkR (bs.drop (offC bs which)) q p1).2]) ∧ Below W.heap.size W w' from get_fn Bt gq fmt _ _ p1 W (HT.out.below hW) HF.out hidp)
      generalize lkR (bs.drop (offC bs which)) q p1 = r at *
      obtain ⟨r1, r2⟩ := r
      simp only at HGT HS
      clear hsw hin hC hf hG hids hw hN hatp hj hidp h1 h2 h3 h4 h5 hcg ht hqq hpq
      go_enter Try.func48, Try.ntmps48
      go_wp2_with (go_at_call 49; (with_reducible refine HAT.out.mono ?_); rintro e w1 ⟨rfl, hb1⟩; have HB1 := Lib.hid hb1; have hz1 := hb1.size; clear hb1)
      obtain ⟨V, hV⟩ : ∃ V, V = w1.alloc (Obj.cells #[.int .i64 p1, .int .i64 p2] 57) := ⟨_, rfl⟩
      have hbV : Below w.heap.size w V := by rw [hV]; exact balloc HB1.out _
      have x6 : V.heap[w1.heap.size]? = some (.cells #[.int .i64 p1, .int .i64 p2] 57 (0, 0)) := by rw [hV]; exact (heap_push _ _ _).trans (if_pos rfl)
      rw [← hV]
      have q6 := fun o => cell_of_heap x6 o
      have l6 := (Array.getElem?_eq_some_iff.1 x6).1
      have xt := (hbV.block _ hgt).trans HC1.out
      rw [← HNQ.out] at xt
      have qt := fun o => cell_of_heap xt o
      have lt := (Array.getElem?_eq_some_iff.1 xt).1
      have qg := (hbV.cell (p := ⟨go, which, none⟩) hgo).trans HCG.out
      have lg := cell_lt qg
      simp only at lg
      have HBV := Lib.hid hbV
      have HGV := Lib.hid (HG.out.below hbV)
      have hBV := Nat.le_trans hB hbV.size
      have HGT2 := Lib.hid (fun W (hW : Below V.heap.size V W) => HGT.out W (HBV.out.trans (hW.mono HBV.out.size)))
      clear hV hbV x6 xt hgt hgo HB1
      refine wp_region_tree (.step 0 (.step 1 (.step 2 (.step 3 (.step 4 (.step 5 (.step 6 (.step 7 (.step 8 (.step 9 (.step 10 (.step 11 (.step 12 (.step 13 (.step 14 .nil))))))))))))))) (by kernel_rfl) (by kernel_rfl) (by kernel_rfl) (by kernel_rfl) (by intro _ _ d_ _ _ h_; cases d_ <;> first | exact h_ | (dsimp +zetaDelta only at h_ ⊢; exact h_)) (fun w' => ∃ p : Wld V [], w' = p.val) (wld_start _ _) ?_
      have hG_ := @wldC V
      (refine tree_quiet (by simp only [List.getElem?_toArray, List.getElem?_cons_succ, List.getElem?_cons_zero]; rfl) (by rfl) (by rfl) (fun K_ hK_ => ?_); go_big_quiet_op; refine hK_ _ ?_; clear hK_ K_)
      (refine tree_quiet (by simp only [List.getElem?_toArray, List.getElem?_cons_succ, List.getElem?_cons_zero]; rfl) (by rfl) (by rfl) (fun K_ hK_ => ?_); go_big_quiet_op; refine hK_ _ ?_; clear hK_ K_)
      (refine tree_quiet (by simp only [List.getElem?_toArray, List.getElem?_cons_succ, List.getElem?_cons_zero]; rfl) (by rfl) (by rfl) (fun K_ hK_ => ?_); go_big_quiet_op; refine hK_ _ ?_; clear hK_ K_)
      (refine tree_quiet (by simp only [List.getElem?_toArray, List.getElem?_cons_succ, List.getElem?_cons_zero]; rfl) (by rfl) (by rfl) (fun K_ hK_ => ?_); go_big_quiet_op; refine hK_ _ ?_; clear hK_ K_)
      (refine tree_quiet (by simp only [List.getElem?_toArray, List.getElem?_cons_succ, List.getElem?_cons_zero]; rfl) (by rfl) (by rfl) (fun K_ hK_ => ?_); go_big_quiet_op; refine hK_ _ ?_; clear hK_ K_)
      (refine tree_quiet (by simp only [List.getElem?_toArray, List.getElem?_cons_succ, List.getElem?_cons_zero]; rfl) (by rfl) (by rfl) (fun K_ hK_ => ?_); go_big_quiet_op; refine hK_ _ ?_; clear hK_ K_)
      (refine tree_quiet (by simp only [List.getElem?_toArray, List.getElem?_cons_succ, List.getElem?_cons_zero]; rfl) (by rfl) (by rfl) (fun K_ hK_ => ?_); go_big_quiet_op; refine hK_ _ ?_; clear hK_ K_)
      (refine tree_quiet (by simp only [List.getElem?_toArray, List.getElem?_cons_succ, List.getElem?_cons_zero]; rfl) (by rfl) (by rfl) (fun K_ hK_ => ?_); go_big_quiet_op; refine hK_ _ ?_; clear hK_ K_)
      (refine tree_quiet (by simp only [List.getElem?_toArray, List.getElem?_cons_succ, List.getElem?_cons_zero]; rfl) (by rfl) (by rfl) (fun K_ hK_ => ?_); go_big_quiet_op; refine hK_ _ ?_; clear hK_ K_)
      (refine tree_run (by simp only [List.getElem?_toArray, List.getElem?_cons_succ, List.getElem?_cons_zero]; rfl) (by rfl) (by rfl) (fun K_ hK_ => ?_); have HK_ := Lib.hid hK_; clear hK_; go_wp2_with ((go_at_call 64; (with_reducible refine (HGT2.out _ (by exact blw)).mono ?_); rintro e w2 ⟨rfl, hb2⟩)); refine HK_.out _ _ (wld_ofA) ?_; clear HK_)
      (refine tree_quiet (by simp only [List.getElem?_toArray, List.getElem?_cons_succ, List.getElem?_cons_zero]; rfl) (by rfl) (by rfl) (fun K_ hK_ => ?_); go_big_quiet_op; refine hK_ _ ?_; clear hK_ K_)
      (refine tree_quiet (by simp only [List.getElem?_toArray, List.getElem?_cons_succ, List.getElem?_cons_zero]; rfl) (by rfl) (by rfl) (fun K_ hK_ => ?_); go_big_quiet_op; refine hK_ _ ?_; clear hK_ K_)
      (refine tree_quiet (by simp only [List.getElem?_toArray, List.getElem?_cons_succ, List.getElem?_cons_zero]; rfl) (by rfl) (by rfl) (fun K_ hK_ => ?_); go_big_quiet_op; refine hK_ _ ?_; clear hK_ K_)
      (refine tree_quiet (by simp only [List.getElem?_toArray, List.getElem?_cons_succ, List.getElem?_cons_zero]; rfl) (by rfl) (by rfl) (fun K_ hK_ => ?_); go_big_quiet_op; refine hK_ _ ?_; clear hK_ K_)
      (refine tree_quiet (by simp only [List.getElem?_toArray, List.getElem?_cons_succ, List.getElem?_cons_zero]; rfl) (by rfl) (by rfl) (fun K_ hK_ => ?_); go_big_quiet_op; refine hK_ _ ?_; clear hK_ K_)
      refine tree_nil ?_
      clear hG_
      have hb2 : Below V.heap.size V w2 := (by exact blw)
      have HGW := Lib.hid (HGV.out.below hb2)
      have HKW := Lib.hid (KeepC.of (own := ownS (a.map (·.block))) (HBV.out.trans (hb2.mono HBV.out.size)) hB)
      clear q6 qt qg
      cases r2 with
      | true =>
        have hst := HSET.out w2 HGW.out (j : Nat) (r1 : Nat)
        have HST := Lib.hid hst
        clear hst
        go_wp2_with (go_at_call 65; (with_reducible refine HST.out.mono ?_); rintro e w3 ⟨rfl, hg3, hk3⟩; have HG3 := Lib.hid hg3; have HK3 := Lib.hid (HKW.out.trans hk3); clear hg3 hk3)
        go_end0
        rw [HS.out]
        exact ⟨rfl, by first | exact HG3.out | simpa using HG3.out, HK3.out⟩
      | false =>
        go_wp2_with fail
        go_end0
        rw [HS.out]
        exact ⟨rfl, by first | exact HGW.out | simpa using HGW.out, HKW.out⟩
/-- What the function within Run may change: the line's row, and the mark. -/
def ownA (bk : Option Nat) (g5 k t : Nat) : Prop := (t = 57 ∧ bk = some k) ∨ (t = 3 ∧ k = g5)
def ownAG (_ t : Nat) : Prop := t = 57 ∨ t = 3
theorem ownA.g {bk : Option Nat} {g5 k t : Nat} (h : ownA bk g5 k t) : ownAG k t := h.imp And.left And.left
theorem ownA_no {bk : Option Nat} {g5 t : Nat} (h1 : t ≠ 57) (h2 : t ≠ 3) : ∀ k, ¬ ownA bk g5 k t := fun _ h => by rcases h with ⟨h, _⟩ | ⟨h, _⟩; exact h1 h; exact h2 h
theorem notM_A (bk : Option Nat) (g5 : Nat) : notM (ownA bk g5) := ⟨ownA_no (by decide) (by decide), ownA_no (by decide) (by decide), ownA_no (by decide) (by decide), ownA_no (by decide) (by decide), ownA_no (by decide) (by decide), ownA_no (by decide) (by decide), ownA_no (by decide) (by decide)⟩
theorem KeepC.ofS {bk : Option Nat} {B g5 : Nat} {w w' : World} (h : KeepC B (ownS bk) w w') : KeepC B (ownA bk g5) w w' := ⟨h.below, h.size, fun k cs t fz hk ho => h.kept k cs t fz hk fun hs => ho (.inl hs)⟩
/-- What the function within Run sees. -/
structure CIn (bk : Option Nat) (Bt gt : Nat) (bs : List UInt8) (rs : List RP) (S : Nat) (qs : List (List RP)) (B gl g2 g3 g5 : Nat) (x : KX) (w : World) : Prop where
  line : ∃ a c, GIs B gl a c x.1 w ∧ a.map (·.block) = bk
  tab : CIs Bt gt bs rs S qs w
  at2 : w.heap[g2]? = some (.cells #[.pointer (some ⟨gt, 0, none⟩)] 34 (0, 0))
  at3 : w.heap[g3]? = some (.cells #[.pointer (some ⟨gl, 0, none⟩)] 48 (0, 0))
  at5 : w.heap[g5]? = some (.cells #[.int .i64 x.2] 3 (0, 0))
  few : x.1.length ≤ 1000000
  ids : IdsOk x.1
theorem CIn.below {bk : Option Nat} {Bt gt : Nat} {bs : List UInt8} {rs : List RP} {S : Nat} {qs : List (List RP)} {B gl g2 g3 g5 : Nat} {x : KX} {w w' : World} (h : CIn bk Bt gt bs rs S qs B gl g2 g3 g5 x w) (hb : Below w.heap.size w w') : CIn bk Bt gt bs rs S qs B gl g2 g3 g5 x w' :=
  ⟨by obtain ⟨a, c, hg, hbk⟩ := h.line; exact ⟨a, c, hg.below hb, hbk⟩, h.tab.below hb, (hb.block _ (Array.getElem?_eq_some_iff.1 h.at2).1).trans h.at2, (hb.block _ (Array.getElem?_eq_some_iff.1 h.at3).1).trans h.at3, (hb.block _ (Array.getElem?_eq_some_iff.1 h.at5).1).trans h.at5, h.few, h.ids⟩
theorem FitC.le {bs : List UInt8} {qs : List (List RP)} (h : FitC bs qs) (k : Nat) (id : Int) : (lkC bs qs k id).1 ≤ 4294967295 := by
  unfold lkC
  split
  · rename_i q hq
    exact getL_le (h k q hq).num
  · exact Nat.zero_le _
theorem CIn.change {bk : Option Nat} {Bt gt : Nat} {bs : List UInt8} {rs : List RP} {S : Nat} {qs : List (List RP)} {B gl g2 g3 g5 : Nat} {x : KX} {W : World} (h : CIn bk Bt gt bs rs S qs B gl g2 g3 g5 x W) (hf : FitC bs qs) (hB : B ≤ W.heap.size) (z : Int) (which : Nat) (hw : which = 65535 ∨ which < qs.length) (hq : qs.length ≤ 65535) :
    Calls Try.prog 48 #[.pointer (some ⟨gt, 0, none⟩), .pointer (some ⟨gl, 0, none⟩), .int .i64 z, .int .i64 (which : Nat)] W fun e w' => e = .returned (.tuple #[]) ∧ CIn bk Bt gt bs rs S qs B gl g2 g3 g5 (swG (lkC bs qs) x.1 z which, x.2) w' ∧ KeepC B (ownA bk g5) W w' := by
  obtain ⟨a, c, hg, hbk⟩ := h.line
  refine (cchange_any Bt gt bs rs S qs B gl a c x.1 z which W h.tab hf hg hB h.ids hw hq).mono ?_
  rintro e w' ⟨rfl, h1, h2⟩
  rw [hbk] at h2
  refine ⟨rfl, ⟨⟨a, c, h1, hbk⟩, h.tab.keepS h2 (notM_S _) (ownS_no (by decide)) (ownS_no (by decide)), (h2.kept _ _ _ _ h.at2 (ownS_no (by decide) _)).trans h.at2, (h2.kept _ _ _ _ h.at3 (ownS_no (by decide) _)).trans h.at3, (h2.kept _ _ _ _ h.at5 (ownS_no (by decide) _)).trans h.at5, ?_, swG_ids hf.le h.ids _ _⟩, h2.ofS⟩
  have := h.few
  show (swG _ _ _ _).length ≤ _
  rw [swG_length]
  exact this
theorem CIn.mark {bk : Option Nat} {Bt gt : Nat} {bs : List UInt8} {rs : List RP} {S : Nat} {qs : List (List RP)} {B gl g2 g3 g5 : Nat} {x : KX} {w W : World} (h : CIn bk Bt gt bs rs S qs B gl g2 g3 g5 x W) (hk : KeepC B (ownA bk g5) w W) (hB5 : B ≤ g5) (k : Int) : CIn bk Bt gt bs rs S qs B gl g2 g3 g5 (x.1, k) (W.setCell ⟨g5, 0, none⟩ (.int .i64 k)) ∧ KeepC B (ownA bk g5) w (W.setCell ⟨g5, 0, none⟩ (.int .i64 k)) := by
  have ne : ∀ {g : Nat} {cs : Array Value} {t : Nat} {fz : Nat × Nat}, W.heap[g]? = some (.cells cs t fz) → t ≠ 3 → g ≠ g5 := by
    rintro g cs t fz hg ht rfl
    have := hg.symm.trans h.at5
    injection this with this
    injection this with _ h2 _
    exact ht h2
  have hkk : KeepC B (ownA bk g5) W (W.setCell ⟨g5, 0, none⟩ (.int .i64 k)) := (KeepC.refl B (ownA bk g5) W).set hB5 h.at5 (.inr ⟨rfl, rfl⟩) _
  obtain ⟨a, c, hg, hbk⟩ := h.line
  refine ⟨⟨⟨a, c, hg.other (ne hg.hd (by decide)).symm (by rw [← ownBlockS a x.1.length c]; exact own_neE hg.row h.at5 (by decide)) _, hbk⟩, h.tab.keepS hkk (notM_A _ _) (ownA_no (by decide) (by decide)) (ownA_no (by decide) (by decide)), (set_heap_other _ (ne h.at2 (by decide))).trans h.at2, (set_heap_other _ (ne h.at3 (by decide))).trans h.at3, set_heap_at _ h.at5, h.few, h.ids⟩, hk.trans hkk⟩
set_option maxRecDepth 100000 in
set_option maxHeartbeats 3200000 in
theorem cdo_any {bk : Option Nat} (Bt gt : Nat) (bs : List UInt8) (rs : List RP) (S : Nat) (qs : List (List RP)) (B gl g2 g3 g5 : Nat) (x : KX) (z : Nat) (e : Ent) (w : World) (h : CIn bk Bt gt bs rs S qs B gl g2 g3 g5 x w) (hf : FitC bs qs) (hB : B ≤ w.heap.size) (hB5 : B ≤ g5) (hq : qs.length ≤ 65535) (hF : e.2.1 ≤ 65535) (hA : e.2.2.1 = 65535 ∨ e.2.2.1 < qs.length) (hBw : e.2.2.2 = 65535 ∨ e.2.2.2 < qs.length) :
    Calls Try.prog 47 #[.int .i64 (z : Nat), entV4 e, .pointer (some ⟨g2, 0, none⟩), .pointer (some ⟨g3, 0, none⟩), .pointer (some ⟨g5, 0, none⟩)] w fun r w' => r = .returned (.tuple #[]) ∧ CIn bk Bt gt bs rs S qs B gl g2 g3 g5 (actC (lkC bs qs) x z e).1 w' ∧ KeepC B (ownA bk g5) w w' := by
  have hAC := allocC
  have hAF := allocF
  obtain ⟨e0, F, A, Bw⟩ := e
  obtain ⟨l, m⟩ := x
  simp only [entV4] at hF hA hBw ⊢
  have HCH := Lib.hid (fun (x : KX) (W : World) (hi : CIn bk Bt gt bs rs S qs B gl g2 g3 g5 x W) (hz : B ≤ W.heap.size) (z : Int) (which : Nat) (hw : which = 65535 ∨ which < qs.length) => hi.change hf hz z which hw hq)
  obtain ⟨W, hW⟩ : ∃ W, W = w.alloc (.cells #[.int .i64 (e0 : Nat), .int .i64 (F : Nat), .int .i64 (A : Nat), .int .i64 (Bw : Nat)] 60) := ⟨_, rfl⟩
  have hbW : Below w.heap.size w W := by rw [hW]; exact balloc (brefl w) _
  have xe : W.heap[w.heap.size]? = some (.cells #[.int .i64 (e0 : Nat), .int .i64 (F : Nat), .int .i64 (A : Nat), .int .i64 (Bw : Nat)] 60 (0, 0)) := by rw [hW]; exact (heap_push _ _ _).trans (if_pos rfl)
  have hi := h.below hbW
  have HK := Lib.hid (KeepC.of (own := ownA bk g5) hbW hB)
  have HEQ := Lib.hid (show (actC (lkC bs qs) (l, m) z (e0, F, A, Bw)).1 = (lineC (lkC bs qs) l m z A Bw, markC (lineC (lkC bs qs) l m z A Bw) m z F) from rfl)
  have HC1 := Lib.hid (HCH.out _ W hi (Nat.le_trans hB HK.out.size) m A hA)
  have q2 := cell_of_heap h.at2 0
  have q3 := cell_of_heap h.at3 0
  have q5 := cell_of_heap h.at5 0
  simp only [List.getElem?_toArray, List.getElem?_cons_zero] at q2 q3 q5
  have l2 := cell_lt q2
  have l3 := cell_lt q3
  have l5 := cell_lt q5
  simp only at l2 l3 l5
  have HXE := Lib.hid xe
  have HBW := Lib.hid hBw
  clear h hf hbW hi hA hBw xe
  go_enter Try.func47, Try.ntmps47
  go_wp2_with fail
  rw [← hW]
  clear hW q2 q3 q5 l2 l3 l5
  refine HC1.out.mono ?_
  rintro r w1 ⟨rfl, hr, hk⟩
  have HK1 := Lib.hid (HK.out.trans hk)
  have xe := (hk.kept _ _ _ _ HXE.out (ownA_no (by decide) (by decide) _)).trans HXE.out
  have HC2 := Lib.hid (HCH.out _ w1 hr (Nat.le_trans hB HK1.out.size) (z : Nat) Bw HBW.out)
  have q2 := cell_of_heap hr.at2 0
  have q3 := cell_of_heap hr.at3 0
  have q5 := cell_of_heap hr.at5 0
  have qe := fun o => cell_of_heap xe o
  simp only [List.getElem?_toArray, List.getElem?_cons_zero] at q2 q3 q5
  have l2 := cell_lt q2
  have l3 := cell_lt q3
  have l5 := cell_lt q5
  have le := (Array.getElem?_eq_some_iff.1 xe).1
  simp only at l2 l3 l5
  have HXE := Lib.hid xe
  clear hr hk xe HC1 HK
  go_wp2_with fail
  clear q2 q3 q5 qe l2 l3 l5 le
  refine HC2.out.mono ?_
  rintro r w2 ⟨rfl, hr, hk⟩
  have HK2 := Lib.hid (HK1.out.trans hk)
  have xe := (hk.kept _ _ _ _ HXE.out (ownA_no (by decide) (by decide) _)).trans HXE.out
  change CIn bk Bt gt bs rs S qs B gl g2 g3 g5 (lineC (lkC bs qs) l m z A Bw, m) w2 at hr
  obtain ⟨L, hL⟩ : ∃ L, L = lineC (lkC bs qs) l m z A Bw := ⟨_, rfl⟩
  rw [← hL] at hr
  have HL := Lib.hid hL
  obtain ⟨a2, c2, hg2, hbk2⟩ := hr.line
  have hat := gat_any B gl a2 c2 L w2 hg2 (z : Nat)
  have q2 := cell_of_heap hr.at2 0
  have q3 := cell_of_heap hr.at3 0
  have q5 := cell_of_heap hr.at5 0
  have q5z := froz_of_heap hr.at5 0
  have qe := fun o => cell_of_heap xe o
  simp only [List.getElem?_toArray, List.getElem?_cons_zero] at q2 q3 q5
  have l2 := cell_lt q2
  have l3 := cell_lt q3
  have l5 := cell_lt q5
  have le := (Array.getElem?_eq_some_iff.1 xe).1
  simp only at l2 l3 l5
  have HXE := Lib.hid xe
  have HR := Lib.hid hr
  have hBz := HK2.out.size
  by_cases hin : z < L.length
  · have hi : inG L (z : Nat) = true := by unfold inG; simp; omega
    rw [hi] at hat
    obtain ⟨p, hp⟩ : ∃ p, p = atG L (z : Nat) := ⟨_, rfl⟩
    obtain ⟨p1, p2⟩ := p
    rw [← hp] at hat
    simp only [glyphA] at hat
    have HAT := Lib.hid hat
    by_cases hfl : F / 2 ^ 15 % 2 = 1
    · have hbt : bits .and .i64 (F : Int) 32768 = 32768 := flag_yes F 15 hF (by decide) 32768 rfl hfl
      have HM := Lib.hid (show (actC (lkC bs qs) (l, m) z (e0, F, A, Bw)).1 = (L, (z : Int)) from by rw [HEQ.out, ← HL.out, markC, if_pos ⟨hfl, hin⟩])
      clear hL hr hk xe HC2 HK1 hg2 hbk2 hat hi hp hfl hin
      go_wp2_with (go_at_call 49; (with_reducible refine HAT.out.mono ?_); rintro e w3 ⟨rfl, hb3⟩; have HB3 := Lib.hid hb3; have xe3 := (hb3.block _ le).trans HXE.out; have qe3 := fun o => cell_of_heap xe3 o; have x53 := (hb3.block _ l5).trans HR.out.at5; have q53 := cell_of_heap x53 0; have q53z := froz_of_heap x53 0; simp only [List.getElem?_toArray, List.getElem?_cons_zero] at q53; have hz3 := hb3.size; clear hb3 xe3 x53)
      go_end0
      rw [HM.out]
      have hb : Below w2.heap.size w2 (w3.alloc (Obj.cells #[.int .i64 p1, .int .i64 p2] 57)) := balloc HB3.out _
      have := (HR.out.below hb).mark (HK2.out.trans (KeepC.of hb (by omega))) hB5 (z : Int)
      exact ⟨rfl, this.1, this.2⟩
    · have hbt : bits .and .i64 (F : Int) 32768 = 0 := flag_no F 15 hF (by decide) 32768 rfl hfl
      have HM := Lib.hid (show (actC (lkC bs qs) (l, m) z (e0, F, A, Bw)).1 = (L, m) from by rw [HEQ.out, ← HL.out, markC, if_neg (fun h => hfl h.1)])
      clear hL hr hk xe HC2 HK1 hg2 hbk2 hat hi hp hfl hin
      go_wp2_with (go_at_call 49; (with_reducible refine HAT.out.mono ?_); rintro e w3 ⟨rfl, hb3⟩; have HB3 := Lib.hid hb3; have xe3 := (hb3.block _ le).trans HXE.out; have qe3 := fun o => cell_of_heap xe3 o; have hz3 := hb3.size; clear hb3 xe3)
      go_end0
      rw [HM.out]
      have hb : Below w2.heap.size w2 (w3.alloc (Obj.cells #[.int .i64 p1, .int .i64 p2] 57)) := balloc HB3.out _
      exact ⟨rfl, HR.out.below hb, HK2.out.trans (KeepC.of hb (by omega))⟩
  · have hi : inG L (z : Nat) = false := by unfold inG; simp; omega
    rw [hi, show atG L (z : Nat) = (0, 0) by rw [atG, if_neg (by rw [hi]; decide)]] at hat
    simp only [glyphA] at hat
    have HAT := Lib.hid hat
    have HM := Lib.hid (show (actC (lkC bs qs) (l, m) z (e0, F, A, Bw)).1 = (L, m) from by rw [HEQ.out, ← HL.out, markC, if_neg (fun h => hin h.2)])
    clear hL hr hk xe HC2 HK1 hg2 hbk2 hat hi hin
    go_wp2_with (go_at_call 49; (with_reducible refine HAT.out.mono ?_); rintro e w3 ⟨rfl, hb3⟩; have HB3 := Lib.hid hb3; have hz3 := hb3.size; clear hb3)
    go_end0
    rw [HM.out]
    have hb : Below w2.heap.size w2 (w3.alloc (Obj.cells #[.int .i64 0, .int .i64 0] 57)) := balloc HB3.out _
    exact ⟨rfl, HR.out.below hb, HK2.out.trans (KeepC.of hb (by omega))⟩
theorem fn_nilC (fn : Fn) (first cap : Array Value) (w : World) : (binOp .neq 106 (.func fn first cap) .nilFunc).run Try.prog w = .ok (.bool true) w := by kernel_rfl
structure CSee (bk : Option Nat) (Bt gt : Nat) (bs : List UInt8) (rs : List RP) (S : Nat) (qs : List (List RP)) (B gl g2 g3 g5 gx : Nat) (x : KX) (w : World) : Prop where
  inv : CIn bk Bt gt bs rs S qs B gl g2 g3 g5 x w
  fn : w.heap[gx]? = some (.cells #[.func (.func 47) #[] #[.pointer (some ⟨g2, 0, none⟩), .pointer (some ⟨g3, 0, none⟩), .pointer (some ⟨g5, 0, none⟩)]] 106 (0, 0))
theorem CSee.below {bk : Option Nat} {Bt gt : Nat} {bs : List UInt8} {rs : List RP} {S : Nat} {qs : List (List RP)} {B gl g2 g3 g5 gx : Nat} {x : KX} {w w' : World} (h : CSee bk Bt gt bs rs S qs B gl g2 g3 g5 gx x w) (hb : Below w.heap.size w w') : CSee bk Bt gt bs rs S qs B gl g2 g3 g5 gx x w' :=
  ⟨h.inv.below hb, (hb.block gx (Array.getElem?_eq_some_iff.1 h.fn).1).trans h.fn⟩
set_option maxRecDepth 100000 in
set_option maxHeartbeats 1600000 in
theorem cplain_any {bk : Option Nat} (Bt gt : Nat) (bs : List UInt8) (rs : List RP) (S : Nat) (qs : List (List RP)) (B gl g2 g3 g5 gx : Nat) (x : KX) (z : Nat) (e : Ent) (w : World) (h : CSee bk Bt gt bs rs S qs B gl g2 g3 g5 gx x w) (hf : FitC bs qs) (hB : B ≤ w.heap.size) (hB5 : B ≤ g5) (hq : qs.length ≤ 65535) (hF : e.2.1 ≤ 65535) (hA : e.2.2.1 = 65535 ∨ e.2.2.1 < qs.length) (hBw : e.2.2.2 = 65535 ∨ e.2.2.2 < qs.length) (hz : z ≤ 900000000) :
    Calls Try.prog 73 #[.int .i64 (z : Nat), entV4 e, .pointer (some ⟨gx, 0, none⟩)] w fun r w' => r = .returned (.tuple #[.int .i64 (actC (lkC bs qs) x z e).2.1, .int .i64 (actC (lkC bs qs) x z e).2.2]) ∧ CSee bk Bt gt bs rs S qs B gl g2 g3 g5 gx (actC (lkC bs qs) x z e).1 w' ∧ KeepC B (ownA bk g5) w w' := by
  have hAC := allocC
  have hAF := allocF
  have hN := fn_nilC
  have hX := h.fn
  have hxl := (Array.getElem?_eq_some_iff.1 hX).1
  have cx := cell_of_heap hX 0
  simp only [List.getElem?_toArray, List.getElem?_cons_zero] at cx
  have HD := Lib.hid (fun (o : Array Value) => cdo_any Bt gt bs rs S qs B gl g2 g3 g5 x z e (w.alloc (.cells o 60)) (h.inv.below (balloc (brefl w) _)) hf (by simp; omega) hB5 hq hF hA hBw)
  have HX := Lib.hid (fun (o : Array Value) W (hk : KeepC B (ownA bk g5) (w.alloc (.cells o 60)) W) => (hk.kept _ _ _ _ (((balloc (brefl w) (.cells o 60)).block _ hxl).trans hX) (ownA_no (by decide) (by decide) _)).trans (((balloc (brefl w) (.cells o 60)).block _ hxl).trans hX))
  have HK := Lib.hid (fun (o : Array Value) => KeepC.of (own := ownA bk g5) (balloc (brefl w) (.cells o 60)) hB)
  have hr : (actC (lkC bs qs) x z e).2 = ((z : Int), (z : Int) + 1) := rfl
  obtain ⟨e0, F, e2, e3⟩ := e
  generalize actC (lkC bs qs) x z (e0, F, e2, e3) = R at *
  obtain ⟨R1, R2⟩ := R
  simp only at hr
  subst hr
  simp only [entV4] at HD ⊢
  clear h hX hF hA hBw
  go_enter Try.func73, Try.ntmps73
  go_wp2_with (go_at_call 47; (with_reducible refine (HD.out _).mono ?_); rintro r w1 ⟨rfl, hr, hk⟩; have HR := Lib.hid hr; have HX1 := Lib.hid (HX.out _ _ hk); have HK1 := Lib.hid ((HK.out _).trans hk); clear hr hk)
  refine bodyPost_ret (v := .tuple #[.int .i64 (z : Nat), .int .i64 ((z : Int) + 1)]) (by simp [results, Try.results73, go_sem]) rfl ?_
  exact ⟨rfl, ⟨HR.out, HX1.out⟩, HK1.out⟩
theorem cplainf_any (fn : Fn) (first cap : Array Value) (w : World) :
    Calls Try.prog 46 #[.func fn first cap] w fun e w' => e = .returned (.func (.func 73) #[] #[.pointer (some ⟨w.heap.size, 0, none⟩)]) ∧ w' = w.alloc (.cells #[.func fn first cap] 106) := by
  go_enter Try.func46, Try.ntmps46
  go_wp2_with fail
  go_ret
  exact ⟨rfl, rfl⟩
theorem COk.fitC {bs : List UInt8} {glyphs : Nat} {rs : List RP} {S : Nat} {qs : List (List RP)} (h : COk bs glyphs rs S qs) (hg : glyphs ≤ 65535) : FitC bs qs := fun i q hq => (h.each i q hq).ok.fit hg (.inl rfl)
/-- Each entry of the machine asks for lookups of the list. -/
theorem COk.ents {bs : List UInt8} {glyphs : Nat} {rs : List RP} {S : Nat} {qs : List (List RP)} (h : COk bs glyphs rs S qs) {s c : Nat} (hs : s < S) (hc : c < num bs 0 4) : ((enM bs 2 s c).2.2.1 = 65535 ∨ (enM bs 2 s c).2.2.1 < qs.length) ∧ ((enM bs 2 s c).2.2.2 = 65535 ∨ (enM bs 2 s c).2.2.2 < qs.length) := by
  rw [h.len]
  exact cntC_in bs (ent_in hs hc)
set_option maxRecDepth 100000 in
set_option maxHeartbeats 3200000 in
theorem crun_any (Bt gt : Nat) (bs : List UInt8) (glyphs : Nat) (rs : List RP) (S : Nat) (qs : List (List RP)) (B gl : Nat) (a : Option Addr) (c : Nat) (l : List (Int × Int)) (w : World)
    (hT : CIs Bt gt bs rs S qs w) (hok : COk bs glyphs rs S qs) (hg1 : 1 ≤ glyphs) (hg2 : glyphs ≤ 65535)
    (hG : GIs B gl a c l w) (hB : B ≤ w.heap.size) (hids : IdsOk l) (hl : l.length ≤ 1000000) :
    Calls Try.prog 18 #[.pointer (some ⟨gt, 0, none⟩), .pointer (some ⟨gl, 0, none⟩)] w fun e w' => e = .returned (.int .i64 ((ctxD bs rs (lkC bs qs) l).2.2 : Nat)) ∧ (∃ a' c', GIs B gl a' c' (ctxD bs rs (lkC bs qs) l).1.1 w' ∧ a'.map (·.block) = a.map (·.block)) ∧ KeepC B (ownA (a.map (·.block)) (w.heap.size + 1 + 1)) w w' := by
  have hAC := allocC
  have hAF := allocF
  have hq : qs.length ≤ 65535 := by rw [hok.len]; exact cntC_65 _ _
  go_enter Try.func18, Try.ntmps18
  go_wp2_with fail
  obtain ⟨W, hW⟩ : ∃ W, W = ((w.alloc (Obj.cells #[.pointer (some ⟨gt, 0, none⟩)] 34)).alloc (Obj.cells #[.pointer (some ⟨gl, 0, none⟩)] 48)).alloc (Obj.cells #[.int .i64 (-1)] 3) := ⟨_, rfl⟩
  have hbW : Below w.heap.size w W := by rw [hW]; exact balloc (balloc (balloc (brefl w) _) _) _
  have hzW : W.heap.size = w.heap.size + 1 + 1 + 1 := by rw [hW]; simp
  have h2 : W.heap[w.heap.size]? = some (.cells #[.pointer (some ⟨gt, 0, none⟩)] 34 (0, 0)) := by
    rw [hW, heap_push, if_neg (by simp only [World.size_alloc]; omega), heap_push, if_neg (by simp only [World.size_alloc]; omega), heap_push, if_pos rfl]
  have h3 : W.heap[w.heap.size + 1]? = some (.cells #[.pointer (some ⟨gl, 0, none⟩)] 48 (0, 0)) := by
    rw [hW, heap_push, if_neg (by simp only [World.size_alloc]; omega), heap_push, if_pos (by simp only [World.size_alloc])]
  have h5 : W.heap[w.heap.size + 1 + 1]? = some (.cells #[.int .i64 (-1)] 3 (0, 0)) := by
    rw [hW, heap_push, if_pos (by simp only [World.size_alloc])]
  have hI : CIn (a.map (·.block)) Bt gt bs rs S qs B gl w.heap.size (w.heap.size + 1) (w.heap.size + 1 + 1) (l, -1) W := ⟨⟨a, c, hG.below hbW, rfl⟩, hT.below hbW, h2, h3, h5, hl, hids⟩
  obtain ⟨g, go, ps, e1, e2, _, _, _⟩ := hT.is
  have ht := (hbW.block gt (Array.getElem?_eq_some_iff.1 e1).1).trans e1
  rw [← hW]
  have hsee : CSee (a.map (·.block)) Bt gt bs rs S qs B gl w.heap.size (w.heap.size + 1) (w.heap.size + 1 + 1) W.heap.size (l, -1) (W.alloc (.cells #[.func (.func 47) #[] #[.pointer (some ⟨w.heap.size, 0, none⟩), .pointer (some ⟨w.heap.size + 1, 0, none⟩), .pointer (some ⟨w.heap.size + 1 + 1, 0, none⟩)]] 106)).drew :=
    ⟨hI.below (bdrew1 (balloc (brefl W) _)), by show (W.alloc _).heap[W.heap.size]? = _; rw [heap_push]; exact if_pos rfl⟩
  have hbX : Below w.heap.size w (W.alloc (.cells #[.func (.func 47) #[] #[.pointer (some ⟨w.heap.size, 0, none⟩), .pointer (some ⟨w.heap.size + 1, 0, none⟩), .pointer (some ⟨w.heap.size + 1 + 1, 0, none⟩)]] 106)).drew := hbW.trans ((bdrew1 (balloc (brefl W) _)).mono hbW.size)
  have hS : S ≤ 65536 := hok.mok.least.least 65536 ⟨by decide, needS_le bs 2 _⟩
  have hfit := hok.mok.lk.fit hg2 (.inl rfl)
  have hrun := drunE_any (X := KX) (fun x => x.1) (CSee (a.map (·.block)) Bt gt bs rs S qs B gl w.heap.size (w.heap.size + 1) (w.heap.size + 1 + 1) W.heap.size) (actC (lkC bs qs)) (ownA (a.map (·.block)) (w.heap.size + 1 + 1)) 1 Bt g bs 2 glyphs rs S B B gl W.heap.size (l, -1) _ (e2.below hbX) hS hok.mok hg1 hfit (notM_A _ _) (Nat.le_trans hB hbX.size) hsee (fun x V V' h hb => h.below hb) (fun x V h => by obtain ⟨a', c', hg, _⟩ := h.inv.line; exact ⟨a', c', hg⟩) (fun x V h => h.inv.ids) l.length rfl hl (by omega) (fun x z e => ⟨by simp [actC]; omega, by simp [actC]⟩)
    (fun x V z e h hk hz hsc _ hF _ _ => by
      obtain ⟨s, c, hs, hc, he⟩ := hsc
      have := hok.ents hs hc
      rw [← he] at this
      exact cplain_any Bt gt bs rs S qs B gl _ _ _ _ x z e V h (hok.fitC hg2) (Nat.le_trans (Nat.le_trans hB hbX.size) hk.size) (by omega) hq hF this.1 this.2 (by omega))
  change Calls _ _ _ _ (fun e w' => e = .returned (.tuple #[.int .i64 ((ctxD bs rs (lkC bs qs) l).2.1 : Nat), .int .i64 ((ctxD bs rs (lkC bs qs) l).2.2 : Nat)]) ∧ CSee (a.map (·.block)) Bt gt bs rs S qs B gl w.heap.size (w.heap.size + 1) (w.heap.size + 1 + 1) W.heap.size (ctxD bs rs (lkC bs qs) l).1 w' ∧ KeepC B (ownA (a.map (·.block)) (w.heap.size + 1 + 1)) _ w') at hrun
  obtain ⟨R, hR⟩ : ∃ R, R = ctxD bs rs (lkC bs qs) l := ⟨_, rfl⟩
  rw [← hR] at hrun
  have HR := Lib.hid hR
  clear hR
  have HRUN := Lib.hid hrun
  have HKX := Lib.hid (KeepC.of (own := ownA (a.map (·.block)) (w.heap.size + 1 + 1)) hbX hB)
  have HBW := Lib.hid hbW
  obtain ⟨NQ, hNQ⟩ : ∃ NQ, NQ = qs.length := ⟨_, rfl⟩
  rw [← hNQ] at ht
  clear hNQ hzW hW hI h5 hsee hbX hrun hok hfit hG hids hT e1 e2 hq
  refine wp_region_tree (.step 0 (.step 1 (.step 2 (.step 3 (.step 4 (.step 5 (.step 6 (.step 7 (.step 8 (.step 9 (.step 10 (.step 11 (.step 12 .nil))))))))))))) (by kernel_rfl) (by kernel_rfl) (by kernel_rfl) (by kernel_rfl) (by intro _ _ d_ _ _ h_; cases d_ <;> first | exact h_ | (dsimp +zetaDelta only at h_ ⊢; exact h_)) (fun w' => ∃ p : KepP (ownAG) W, w' = p.val) (kepP_start _ _) ?_
  have hK0_ := fun (p : KepP (ownAG) W) (o : Nat) => p.is.cell ht (by first | (intro h_; exact absurd h_.1 (by decide)) | (intro h_; exact h_.2 rfl) | (intro h_; rcases h_ with h_ | h_ | h_ <;> exact absurd h_ (by decide)) | (intro h_; rcases h_ with h_ | h_ <;> exact absurd h_ (by decide))) o
  have hK1_ := fun (p : KepP (ownAG) W) (o : Nat) => p.is.cell h2 (by first | (intro h_; exact absurd h_.1 (by decide)) | (intro h_; exact h_.2 rfl) | (intro h_; rcases h_ with h_ | h_ | h_ <;> exact absurd h_ (by decide)) | (intro h_; rcases h_ with h_ | h_ <;> exact absurd h_ (by decide))) o
  have hK2_ := fun (p : KepP (ownAG) W) (o : Nat) => p.is.cell h3 (by first | (intro h_; exact absurd h_.1 (by decide)) | (intro h_; exact h_.2 rfl) | (intro h_; rcases h_ with h_ | h_ | h_ <;> exact absurd h_ (by decide)) | (intro h_; rcases h_ with h_ | h_ <;> exact absurd h_ (by decide))) o
  (refine tree_quiet (by simp only [List.getElem?_toArray, List.getElem?_cons_succ, List.getElem?_cons_zero]; rfl) (by rfl) (by rfl) (fun K_ hK_ => ?_); go_big_quiet_op; refine hK_ _ ?_; clear hK_ K_)
  (refine tree_quiet (by simp only [List.getElem?_toArray, List.getElem?_cons_succ, List.getElem?_cons_zero]; rfl) (by rfl) (by rfl) (fun K_ hK_ => ?_); go_big_quiet_op; refine hK_ _ ?_; clear hK_ K_)
  (refine tree_quiet (by simp only [List.getElem?_toArray, List.getElem?_cons_succ, List.getElem?_cons_zero]; rfl) (by rfl) (by rfl) (fun K_ hK_ => ?_); go_big_quiet_op; refine hK_ _ ?_; clear hK_ K_)
  (refine tree_quiet (by simp only [List.getElem?_toArray, List.getElem?_cons_succ, List.getElem?_cons_zero]; rfl) (by rfl) (by rfl) (fun K_ hK_ => ?_); go_big_quiet_op; refine hK_ _ ?_; clear hK_ K_)
  (refine tree_quiet (by simp only [List.getElem?_toArray, List.getElem?_cons_succ, List.getElem?_cons_zero]; rfl) (by rfl) (by rfl) (fun K_ hK_ => ?_); go_big_quiet_op; refine hK_ _ ?_; clear hK_ K_)
  (refine tree_quiet (by simp only [List.getElem?_toArray, List.getElem?_cons_succ, List.getElem?_cons_zero]; rfl) (by rfl) (by rfl) (fun K_ hK_ => ?_); go_big_quiet_op; refine hK_ _ ?_; clear hK_ K_)
  (refine tree_run (by simp only [List.getElem?_toArray, List.getElem?_cons_succ, List.getElem?_cons_zero]; rfl) (by rfl) (by rfl) (fun K_ hK_ => ?_); have HK_ := Lib.hid hK_; clear hK_; go_wp2_with (first | (go_at_call 46; (with_reducible refine (cplainf_any _ _ _ _).mono ?_); rintro e w5 ⟨rfl, rfl⟩; have hko4 : KeptO ownAG W (W.drew.alloc (.cells #[.func (.func 47) #[] #[.pointer (some ⟨w.heap.size, 0, none⟩), .pointer (some ⟨w.heap.size + 1, 0, none⟩), .pointer (some ⟨w.heap.size + 1 + 1, 0, none⟩)]] 106)) := KeptO.below (balloc (bdrew1 (brefl W)) _); have hko5 : KeptO ownAG W (W.alloc (.cells #[.func (.func 47) #[] #[.pointer (some ⟨w.heap.size, 0, none⟩), .pointer (some ⟨w.heap.size + 1, 0, none⟩), .pointer (some ⟨w.heap.size + 1 + 1, 0, none⟩)]] 106)).drew := KeptO.below (bdrew1 (balloc (brefl W) _))) | (go_at_call 45; (with_reducible refine HRUN.out.mono ?_); rintro e w7 ⟨rfl, hx7, hk7⟩; have HX7 := Lib.hid hx7; have HK7 := Lib.hid (HKX.out.trans hk7); have hko7 : KeptO ownAG W w7 := hko5.trans ⟨hk7.size, fun k cs t fz hk ho => hk7.kept k cs t fz hk (fun h => ho h.g)⟩; clear hx7 hk7)); refine HK_.out _ _ (kepP_ofA) ?_; clear HK_)
  (refine tree_run (by simp only [List.getElem?_toArray, List.getElem?_cons_succ, List.getElem?_cons_zero]; rfl) (by rfl) (by rfl) (fun K_ hK_ => ?_); have HK_ := Lib.hid hK_; clear hK_; go_wp2_with (first | (go_at_call 46; (with_reducible refine (cplainf_any _ _ _ _).mono ?_); rintro e w5 ⟨rfl, rfl⟩; have hko4 : KeptO ownAG W (W.drew.alloc (.cells #[.func (.func 47) #[] #[.pointer (some ⟨w.heap.size, 0, none⟩), .pointer (some ⟨w.heap.size + 1, 0, none⟩), .pointer (some ⟨w.heap.size + 1 + 1, 0, none⟩)]] 106)) := KeptO.below (balloc (bdrew1 (brefl W)) _); have hko5 : KeptO ownAG W (W.alloc (.cells #[.func (.func 47) #[] #[.pointer (some ⟨w.heap.size, 0, none⟩), .pointer (some ⟨w.heap.size + 1, 0, none⟩), .pointer (some ⟨w.heap.size + 1 + 1, 0, none⟩)]] 106)).drew := KeptO.below (bdrew1 (balloc (brefl W) _))) | (go_at_call 45; (with_reducible refine HRUN.out.mono ?_); rintro e w7 ⟨rfl, hx7, hk7⟩; have HX7 := Lib.hid hx7; have HK7 := Lib.hid (HKX.out.trans hk7); have hko7 : KeptO ownAG W w7 := hko5.trans ⟨hk7.size, fun k cs t fz hk ho => hk7.kept k cs t fz hk (fun h => ho h.g)⟩; clear hx7 hk7)); refine HK_.out _ _ (kepP_ofA) ?_; clear HK_)
  (refine tree_quiet (by simp only [List.getElem?_toArray, List.getElem?_cons_succ, List.getElem?_cons_zero]; rfl) (by rfl) (by rfl) (fun K_ hK_ => ?_); go_big_quiet_op; refine hK_ _ ?_; clear hK_ K_)
  (refine tree_quiet (by simp only [List.getElem?_toArray, List.getElem?_cons_succ, List.getElem?_cons_zero]; rfl) (by rfl) (by rfl) (fun K_ hK_ => ?_); go_big_quiet_op; refine hK_ _ ?_; clear hK_ K_)
  (refine tree_quiet (by simp only [List.getElem?_toArray, List.getElem?_cons_succ, List.getElem?_cons_zero]; rfl) (by rfl) (by rfl) (fun K_ hK_ => ?_); go_big_quiet_op; refine hK_ _ ?_; clear hK_ K_)
  (refine tree_quiet (by simp only [List.getElem?_toArray, List.getElem?_cons_succ, List.getElem?_cons_zero]; rfl) (by rfl) (by rfl) (fun K_ hK_ => ?_); go_big_quiet_op; refine hK_ _ ?_; clear hK_ K_)
  (refine tree_quiet (by simp only [List.getElem?_toArray, List.getElem?_cons_succ, List.getElem?_cons_zero]; rfl) (by rfl) (by rfl) (fun K_ hK_ => ?_); go_big_quiet_op; refine hK_ _ ?_; clear hK_ K_)
  refine tree_nil ?_
  clear hK0_ hK1_ hK2_
  go_wp2_with fail
  go_ret
  rw [← HR.out]
  exact ⟨rfl, HX7.out.inv.line, HK7.out⟩
end Go.Proofs.Ytcegoenlajkgfaa
end
section

/- ctx.Read: such a subtable that bytes begin with. Conditions: as many bytes as the slice says; glyphs as an int. -/
namespace Go.Proofs.Ytcegoenlajkgfaa
open Go.RowKit Go.Lib

theorem CIs.setOther {B gt g3 : Nat} {bs : List UInt8} {rs : List RP} {S : Nat} {qs : List (List RP)} {w : World} {cs : Array Value} {fz : Nat × Nat} (h : CIs B gt bs rs S qs w) (hw : w.heap[g3]? = some (.cells cs 34 fz)) (v : Value) : CIs B gt bs rs S qs (w.setCell ⟨g3, 0, none⟩ v) := by
  obtain ⟨g, go, ps, h1, h2, h3, h4, h5⟩ := h.is
  refine ⟨⟨g, go, ps, ?_, h2.setOther (o := 0) hw (by refine ⟨fun k h => ?_, fun k h => ?_, fun k h => ?_, fun k h => ?_, fun k h => ?_, fun k h => ?_, fun k h => ?_⟩ <;> · simp at h) v, set_owns v h3 (own_neE h3 hw (by decide)), h4, fun i q g hi hp => by obtain ⟨f, h⟩ := h5 i q g hi hp; exact ⟨f, h.setOther (o := 0) hw (by decide) (by decide) (by decide) v⟩⟩, h.ge⟩
  refine (set_heap_other _ ?_).trans h1
  rintro rfl
  rw [h1] at hw
  injection hw with hw
  injection hw with _ h4 _
  exact absurd h4 (by decide)
def CRead1R (B : Nat) (w : World) (g3 : Nat) (bs : List UInt8) (glyphs : Nat) (ok : Bool) (w' : World) : Prop :=
  (ok = true ∧ ∃ rs S qs g, COk bs glyphs rs S qs ∧ w'.heap[g3]? = some (.cells #[.pointer (some ⟨g, 0, none⟩)] 34 (0, 0)) ∧ CIs w.heap.size g bs rs S qs w' ∧ Below B w w' ∧ w.heap.size ≤ w'.heap.size) ∨
  (ok = false ∧ (∀ rs S qs, ¬ COk bs glyphs rs S qs) ∧ Below w.heap.size w w')
theorem enter_cread1 (args : Array Value) (w : World) : (callFunc 41 args).run Try.prog w = .ok (.enter 41 args) w := by kernel_rfl
set_option maxRecDepth 100000 in
set_option maxHeartbeats 1600000 in
theorem cread1_any (B : Nat) (a : Option Addr) (n c : Nat) (bs : List UInt8) (glyphs : Nat) (g0 g1 g3 : Nat) (x : Value) (w : World) (h : Has w a (bytesV bs)) (hl : bs.length = n) (hn : n ≤ c) (hc : c ≤ maxLen) (hg1 : 1 ≤ glyphs) (hg2 : glyphs ≤ 65535) (hB : B ≤ g3)
    (c0 : w.cell? ⟨g0, 0, none⟩ = some (.slice a n c)) (c1 : w.cell? ⟨g1, 0, none⟩ = some (.int .i64 (glyphs : Nat)))
    (c3 : w.heap[g3]? = some (.cells #[x] 34 (0, 0))) :
    Calls Try.prog 41 #[.pointer (some ⟨g0, 0, none⟩), .pointer (some ⟨g1, 0, none⟩), .pointer (some ⟨g3, 0, none⟩)] w
      fun e w' => (e = .returned (.tuple #[]) ∧ CRead1R B w g3 bs glyphs true w') ∨ (e = .panicked thrown ∧ CRead1R B w g3 bs glyphs false w') := by
  have HH := Lib.hid h
  have HL := Lib.hid hl
  have C3 := Lib.hid c3
  have l0 := cell_lt c0
  have l1 := cell_lt c1
  have l3 := (Array.getElem?_eq_some_iff.1 c3).1
  simp only at l0 l1
  clear h hl c3
  by_cases hok : ∃ rs S qs, COk bs glyphs rs S qs
  · obtain ⟨rs, S, qs, hok⟩ := hok
    have HOK := Lib.hid hok
    have HT := Lib.hid (fun W hw => ctake_ok a n c bs glyphs rs S qs W hw HL.out hn hc hg1 hg2 hok)
    clear hok
    go_enter Try.func41, Try.ntmps41
    go_wp2_with fail
    refine wp_region_last (.step 0 (.step 2 (.step 1 (.step 3 (.step 4 .nil))))) 4 (by kernel_rfl) (by kernel_rfl) (by kernel_rfl) (by kernel_rfl) (by kernel_rfl) (by intro _ _ d_ _ _ h_; cases d_ <;> first | exact h_ | (dsimp +zetaDelta only at h_ ⊢; exact h_)) (fun w' => ∃ p : Wld w [], w' = p.val) (wld_start _ _) ?_
    have hG_ := @wldC w
    (refine z_quiet (by simp only [List.getElem?_toArray, List.getElem?_cons_succ, List.getElem?_cons_zero]; rfl) (by rfl) (by rfl) (fun K_ hK_ => ?_); go_big_quiet_op; refine hK_ _ ?_; clear hK_ K_)
    (refine z_quiet (by simp only [List.getElem?_toArray, List.getElem?_cons_succ, List.getElem?_cons_zero]; rfl) (by rfl) (by rfl) (fun K_ hK_ => ?_); go_big_quiet_op; refine hK_ _ ?_; clear hK_ K_)
    (refine z_run (by simp only [List.getElem?_toArray, List.getElem?_cons_succ, List.getElem?_cons_zero]; rfl) (by rfl) (by rfl) (fun K_ hK_ => ?_); have HK_ := Lib.hid hK_; clear hK_; go_wp2_with (first | (go_at_call 27; (with_reducible refine (of_any _ _ _ _).mono ?_); rintro e wa ⟨rfl, hba⟩; have hac := bc hba; have haf := bf hba; have haz := hba.size; try simp only [World.size_alloc, World.size_drew] at haz) | (go_at_call 26; (with_reducible refine (HT.out _ (HH.out.below (by exact blw))).mono ?_); rintro e wb ⟨g, rfl, hown, hbb⟩; have hbz := hbb.size; have HOW := Lib.hid hown; have hB4 : Below w.heap.size w wb := blw; have c4b := (hB4.block g3 l3).trans C3.out; have q4 := cell_of_heap c4b 0; have f4 := froz_of_heap c4b 0; have HC4 := Lib.hid c4b; have HBB := Lib.hid hB4; clear hown hbb hB4 c4b)); refine HK_.out _ _ (wld_ofA) ?_; clear HK_)
    (refine z_run (by simp only [List.getElem?_toArray, List.getElem?_cons_succ, List.getElem?_cons_zero]; rfl) (by rfl) (by rfl) (fun K_ hK_ => ?_); have HK_ := Lib.hid hK_; clear hK_; go_wp2_with (first | (go_at_call 27; (with_reducible refine (of_any _ _ _ _).mono ?_); rintro e wa ⟨rfl, hba⟩; have hac := bc hba; have haf := bf hba; have haz := hba.size; try simp only [World.size_alloc, World.size_drew] at haz) | (go_at_call 26; (with_reducible refine (HT.out _ (HH.out.below (by exact blw))).mono ?_); rintro e wb ⟨g, rfl, hown, hbb⟩; have hbz := hbb.size; have HOW := Lib.hid hown; have hB4 : Below w.heap.size w wb := blw; have c4b := (hB4.block g3 l3).trans C3.out; have q4 := cell_of_heap c4b 0; have f4 := froz_of_heap c4b 0; have HC4 := Lib.hid c4b; have HBB := Lib.hid hB4; clear hown hbb hB4 c4b)); refine HK_.out _ _ (wld_ofA) ?_; clear HK_)
    (refine z_last (by simp only [List.getElem?_toArray, List.getElem?_cons_succ, List.getElem?_cons_zero]; rfl) (by rfl) (by rfl) (by rfl) (fun K_ hK_ => ?_); have HK_ := Lib.hid hK_; clear hK_; go_wp2_with (first | (go_at_call 27; (with_reducible refine (of_any _ _ _ _).mono ?_); rintro e wa ⟨rfl, hba⟩; have hac := bc hba; have haf := bf hba; have haz := hba.size; try simp only [World.size_alloc, World.size_drew] at haz) | (go_at_call 26; (with_reducible refine (HT.out _ (HH.out.below (by exact blw))).mono ?_); rintro e wb ⟨g, rfl, hown, hbb⟩; have hbz := hbb.size; have HOW := Lib.hid hown; have hB4 : Below w.heap.size w wb := blw; have c4b := (hB4.block g3 l3).trans C3.out; have q4 := cell_of_heap c4b 0; have f4 := froz_of_heap c4b 0; have HC4 := Lib.hid c4b; have HBB := Lib.hid hB4; clear hown hbb hB4 c4b)); refine HK_.out _ _ ?_; clear HK_)
    refine z_nil ?_
    clear hG_
    go_end0
    refine .inl ⟨rfl, .inl ⟨rfl, rs, S, qs, g, HOK.out, set_heap_at _ HC4.out, ?_, (HBB.out.mono (Nat.le_of_lt (by omega))).setCell (p := ⟨g3, 0, none⟩) hB _, by have := HBB.out.size; simpa using this⟩⟩
    exact (HOW.out.setOther HC4.out (.pointer (some ⟨g, 0, none⟩))).mono (by omega)
  · have HNO := Lib.hid (show ∀ rs S qs, ¬ COk bs glyphs rs S qs from fun rs S qs ho => hok ⟨rs, S, qs, ho⟩)
    have HT := Lib.hid (fun W hw => ctake_bad a n c bs glyphs W hw HL.out hn hc hg1 hg2 HNO.out)
    clear hok
    go_enter Try.func41, Try.ntmps41
    go_wp2_with fail
    refine wp_region_tree (.step 0 (.step 2 (.step 1 (.step 3 (.step 4 .nil))))) (by kernel_rfl) (by kernel_rfl) (by kernel_rfl) (by kernel_rfl) (by intro _ _ d_ _ _ h_; cases d_ <;> first | exact h_ | (dsimp +zetaDelta only at h_ ⊢; exact h_)) (fun w' => ∃ p : BelW w.heap.size w, w' = p.val) (bel_start _ _) ?_
    have hG_ := @belC w.heap.size w
    (refine tree_quiet (by simp only [List.getElem?_toArray, List.getElem?_cons_succ, List.getElem?_cons_zero]; rfl) (by rfl) (by rfl) (fun K_ hK_ => ?_); go_big_quiet_op; refine hK_ _ ?_; clear hK_ K_)
    (refine tree_quiet (by simp only [List.getElem?_toArray, List.getElem?_cons_succ, List.getElem?_cons_zero]; rfl) (by rfl) (by rfl) (fun K_ hK_ => ?_); go_big_quiet_op; refine hK_ _ ?_; clear hK_ K_)
    (refine tree_run (by simp only [List.getElem?_toArray, List.getElem?_cons_succ, List.getElem?_cons_zero]; rfl) (by rfl) (by rfl) (fun K_ hK_ => ?_); have HK_ := Lib.hid hK_; clear hK_; go_wp2_with (first | (go_at_call 27; (with_reducible refine (of_any _ _ _ _).mono ?_); rintro e wa ⟨rfl, hba⟩; have hac := bc hba; have haf := bf hba; have haz := hba.size; try simp only [World.size_alloc, World.size_drew] at haz) | (go_at_call 26; (with_reducible refine (HT.out _ (HH.out.below (by exact blw))).mono ?_); rintro e wb ⟨rfl, hbb⟩; have hbc := bc hbb; have hbf := bf hbb; have hbz := hbb.size; try simp only [World.size_alloc, World.size_drew] at hbz)); refine HK_.out _ _ (bel_ofA) ?_; clear HK_)
    (refine tree_run (by simp only [List.getElem?_toArray, List.getElem?_cons_succ, List.getElem?_cons_zero]; rfl) (by rfl) (by rfl) (fun K_ hK_ => ?_); have HK_ := Lib.hid hK_; clear hK_; go_wp2_with (first | (go_at_call 27; (with_reducible refine (of_any _ _ _ _).mono ?_); rintro e wa ⟨rfl, hba⟩; have hac := bc hba; have haf := bf hba; have haz := hba.size; try simp only [World.size_alloc, World.size_drew] at haz) | (go_at_call 26; (with_reducible refine (HT.out _ (HH.out.below (by exact blw))).mono ?_); rintro e wb ⟨rfl, hbb⟩; have hbc := bc hbb; have hbf := bf hbb; have hbz := hbb.size; try simp only [World.size_alloc, World.size_drew] at hbz)); exact ⟨rfl, .inr ⟨rfl, .inr ⟨rfl, HNO.out, by repeat (first | exact Below.refl _ _ | assumption | refine bdrew1q ?_ | refine balloc ?_ _ | refine bthen ?_ (by assumption) | refine Below.trans ?_ (by assumption))⟩⟩⟩)
def CRdIs (bs : List UInt8) (zg : Int) (w : World) (e : Ending) (w' : World) : Prop :=
  (((zg < 1 ∨ 65535 < zg) ∧ e = .returned (.tuple #[.pointer none, .int .i64 1])) ∨
   (1 ≤ zg ∧ zg ≤ 65535 ∧ (∀ rs S qs, ¬ COk bs zg.toNat rs S qs) ∧ e = .returned (.tuple #[.pointer none, .int .i64 2])) ∨
   (1 ≤ zg ∧ zg ≤ 65535 ∧ ∃ rs S qs g, COk bs zg.toNat rs S qs ∧ e = .returned (.tuple #[.pointer (some ⟨g, 0, none⟩), .int .i64 0]) ∧ CIs w.heap.size g bs rs S qs w')) ∧ Below w.heap.size w w'
set_option maxRecDepth 100000 in
set_option maxHeartbeats 3200000 in
theorem cread_any (a : Option Addr) (n c : Nat) (bs : List UInt8) (zg : Int) (w : World) (h : Has w a (bytesV bs)) (hl : bs.length = n) (hn : n ≤ c) (hc : c ≤ maxLen) (hzg : -9223372036854775808 ≤ zg ∧ zg ≤ 9223372036854775807) :
    Calls Try.prog 15 #[.slice a n c, .int .i64 zg] w (CRdIs bs zg w) := by
  have HH := Lib.hid h
  have HL := Lib.hid hl
  clear h hl
  have hAC := allocC
  have hAF := allocF
  have hmf : ∀ (fn : Fn) (first cap : Array Value) (w : World), (Instr.makeFunc fn first cap).run Try.prog w = .ok (.func fn first cap) w := fun _ _ _ _ => rfl
  obtain ⟨hn1, hn2⟩ := hzg
  by_cases hb1 : zg < 1
  · go_enter Try.func15, Try.ntmps15
    go_wp2_with fail
    refine bodyPost_ret (v := .tuple #[.pointer none, .int .i64 1]) (by simp [results, Try.results15, go_sem, hAC, hAF]) rfl ?_
    exact ⟨.inl ⟨.inl hb1, rfl⟩, blw⟩
  by_cases hb2 : 65535 < zg
  · go_enter Try.func15, Try.ntmps15
    go_wp2_with fail
    refine bodyPost_ret (v := .tuple #[.pointer none, .int .i64 1]) (by simp [results, Try.results15, go_sem, hAC, hAF]) rfl ?_
    exact ⟨.inl ⟨.inr hb2, rfl⟩, blw⟩
  obtain ⟨G, rfl⟩ : ∃ G : Nat, zg = G := ⟨zg.toNat, by omega⟩
  go_enter Try.func15, Try.ntmps15
  go_wp2_with fail
  obtain ⟨W, hW⟩ : ∃ W, W = ((w.alloc (Obj.cells #[.slice a n c] 22)).alloc (Obj.cells #[.int .i64 (G : Nat)] 3)).alloc (Obj.cells #[.pointer none] 34) := ⟨_, rfl⟩
  have hb : Below w.heap.size w W := by rw [hW]; exact blw
  have hz : W.heap.size = w.heap.size + 3 := by rw [hW]; simp
  have c0 : W.cell? ⟨w.heap.size, 0, none⟩ = some (.slice a n c) := by rw [hW]; exact ((balloc (balloc (brefl _) _) _).cell (p := ⟨w.heap.size, 0, none⟩) (by simp)).trans (cell_of_heap (heap_new w (.slice a n c) _) 0)
  have c1 : W.cell? ⟨w.heap.size + 1, 0, none⟩ = some (.int .i64 (G : Nat)) := by rw [hW]; simp [hAC]
  have c3 : W.heap[w.heap.size + 1 + 1]? = some (.cells #[.pointer none] 34 (0, 0)) := by
    rw [hW, heap_push, if_pos (by simp)]
  rw [← hW]
  clear hW
  have HB := Lib.hid hb
  have hlz : W.heap.size = w.heap.size + 3 := hz
  have HT := Lib.hid (try_any 41 _ W (CRead1R w.heap.size W (w.heap.size + 1 + 1) bs G) (enter_cread1 _)
    (cread1_any w.heap.size a n c bs G _ _ _ _ _ (HH.out.below HB.out) HL.out hn hc (by omega) (by omega) (by omega) c0 c1 c3))
  have C3 := Lib.hid c3
  clear c0 c1 c3 hb
  refine HT.out.mono ?_
  rintro r w2 ⟨ok, rfl, (⟨rfl, rs, S, qs, g, hok, hG, htb, hb2, hz2⟩ | ⟨rfl, hno, hb2⟩)⟩
  case inr =>
    have HNO := Lib.hid hno
    have HB2 := Lib.hid (HB.out.trans (hb2.mono HB.out.size))
    have q3 := cell_of_heap ((hb2.block (w.heap.size + 1 + 1) (by omega)).trans C3.out) 0
    have qf := fun o => froz_of_heap ((hb2.block (w.heap.size + 1 + 1) (by omega)).trans C3.out) o
    simp only [List.getElem?_toArray, List.getElem?_cons_zero] at q3
    have hl3 := cell_lt q3
    simp only at hl3
    clear hno hb2 HT hz hlz
    go_wp2_with fail
    refine bodyPost_ret (v := .tuple #[.pointer none, .int .i64 2]) (by simp [results, Try.results15, go_sem, q3, qf]) rfl ?_
    exact ⟨.inr (.inl ⟨by omega, by omega, HNO.out, rfl⟩), HB2.out.setCell (p := ⟨w.heap.size + 1 + 1, 0, none⟩) (by show w.heap.size ≤ w.heap.size + 1 + 1; omega) _⟩
  have HOK := Lib.hid hok
  have HB2 := Lib.hid (HB.out.trans hb2)
  have HTB := Lib.hid ((htb.setOther hG (.pointer (some ⟨g, 0, none⟩))).mono (show w.heap.size ≤ W.heap.size by omega))
  have q10 := cell_of_heap hG 0
  have qf := fun o => froz_of_heap hG o
  simp only [List.getElem?_toArray, List.getElem?_cons_zero] at q10
  have hgl := (Array.getElem?_eq_some_iff.1 hG).1
  clear hok hb2 hG htb HT hz hlz hz2
  go_wp2_with fail
  refine bodyPost_ret (v := .tuple #[.pointer (some ⟨g, 0, none⟩), .int .i64 0]) (by simp [results, Try.results15, go_sem, q10, qf]) rfl ?_
  exact ⟨.inr (.inr ⟨by omega, by omega, rs, S, qs, g, HOK.out, rfl, HTB.out⟩), HB2.out.setCell (p := ⟨w.heap.size + 1 + 1, 0, none⟩) (by show w.heap.size ≤ w.heap.size + 1 + 1; omega) _⟩
theorem cread_some (a : Option Addr) (n c : Nat) (bs : List UInt8) (glyphs : Nat) (zg : Int) (hzg : zg = (glyphs : Nat)) (rs : List RP) (S : Nat) (qs : List (List RP)) (w : World) (h : Has w a (bytesV bs)) (hl : bs.length = n) (hn : n ≤ c) (hc : c ≤ maxLen) (hg1 : 1 ≤ glyphs) (hg2 : glyphs ≤ 65535) (hok : COk bs glyphs rs S qs) :
    Calls Try.prog 15 #[.slice a n c, .int .i64 zg] w fun e w' => ∃ g, e = .returned (.tuple #[.pointer (some ⟨g, 0, none⟩), .int .i64 0]) ∧ CIs w.heap.size g bs rs S qs w' ∧ Below w.heap.size w w' := by
  subst hzg
  refine (cread_any a n c bs _ w h hl hn hc (by omega)).mono ?_
  rintro e w' ⟨(⟨hb, _⟩ | ⟨_, _, hno, _⟩ | ⟨_, _, rs', S', qs', g, hr, he, ht⟩), hb'⟩
  · omega
  · exact absurd hok (hno rs S qs)
  · obtain ⟨rfl, rfl, rfl⟩ := hok.det hr
    exact ⟨g, he, ht, hb'⟩
theorem cread_none (a : Option Addr) (n c : Nat) (bs : List UInt8) (glyphs : Nat) (zg : Int) (hzg : zg = (glyphs : Nat)) (w : World) (h : Has w a (bytesV bs)) (hl : bs.length = n) (hn : n ≤ c) (hc : c ≤ maxLen) (hg1 : 1 ≤ glyphs) (hg2 : glyphs ≤ 65535) (hno : ∀ rs S qs, ¬ COk bs glyphs rs S qs) :
    Calls Try.prog 15 #[.slice a n c, .int .i64 zg] w fun e w' => e = .returned (.tuple #[.pointer none, .int .i64 2]) ∧ Below w.heap.size w w' := by
  subst hzg
  refine (cread_any a n c bs _ w h hl hn hc (by omega)).mono ?_
  rintro e w' ⟨(⟨hb, _⟩ | ⟨_, _, _, he⟩ | ⟨_, _, rs', S', qs', g, hr, _, _⟩), hb'⟩
  · omega
  · exact ⟨he, hb'⟩
  · exact absurd hr (hno rs' S' qs')
end Go.Proofs.Ytcegoenlajkgfaa
end
section

/- The bytes of a subtable of layer 15 as its law writes them: swashlaw15.Write. Conditions: a machine's plan and lookups in memory; sizes. -/
namespace Go.Proofs.Ytcegoenlajkgfaa
open Go.RowKit Go.Lib

/-- Two rows of bytes that lie apart, as slots. -/
def Two2 (B : Nat) (x1 x2 : List UInt8) (v1 v2 : Value) (w : World) : Prop := ∃ a1 c1 a2 c2, v1 = .slice a1 x1.length c1 ∧ v2 = .slice a2 x2.length c2 ∧ Two B w a1 x1.length c1 x1 a2 x2.length c2 x2
theorem Two2.swap {B : Nat} {x1 x2 : List UInt8} {v1 v2 : Value} {w : World} (h : Two2 B x1 x2 v1 v2 w) : Two2 B x2 x1 v2 v1 w := by
  obtain ⟨a1, c1, a2, c2, h1, h2, h3⟩ := h
  exact ⟨a2, c2, a1, c1, h2, h1, h3.swap⟩
theorem Two2.putA {B v size : Nat} (z y : Int) (hz : z = (v : Nat)) (hy : y = (size : Nat)) {x1 x2 : List UInt8} {v1 v2 : Value} {w : World} (h : Two2 B x1 x2 v1 v2 w) (hB : B ≤ w.heap.size) (hv : v < 9223372036854775808) (hn : x1.length ≤ 1000000000) (hs : size ≤ 8) :
    Calls Try.prog 39 #[v1, .int .i64 z, .int .i64 y] w fun e w' => ∃ s, e = .returned s ∧ Two2 B (x1 ++ beN size v) x2 s v2 w' ∧ Below B w w' := by
  obtain ⟨a1, c1, a2, c2, rfl, rfl, h3⟩ := h
  refine (put_z B a1 x1.length c1 v size z y hz hy x1 w h3.o1 hB hv hn hs).mono ?_
  rintro e w' ⟨a', c', rfl, g2, _, _, _, g6, _, g8⟩
  have hl : (x1 ++ beN size v).length = x1.length + size := by rw [List.length_append, beN_length]
  exact ⟨_, rfl, ⟨a', c', a2, c2, by rw [hl], rfl, by rw [hl]; exact h3.put1 g8 g2⟩, g6⟩
theorem Two2.putB {B v size : Nat} (z y : Int) (hz : z = (v : Nat)) (hy : y = (size : Nat)) {x1 x2 : List UInt8} {v1 v2 : Value} {w : World} (h : Two2 B x1 x2 v1 v2 w) (hB : B ≤ w.heap.size) (hv : v < 9223372036854775808) (hn : x2.length ≤ 1000000000) (hs : size ≤ 8) :
    Calls Try.prog 39 #[v2, .int .i64 z, .int .i64 y] w fun e w' => ∃ s, e = .returned s ∧ Two2 B x1 (x2 ++ beN size v) v1 s w' ∧ Below B w w' := by
  refine (h.swap.putA z y hz hy hB hv hn hs).mono ?_
  rintro e w' ⟨s, rfl, g1, g2⟩
  exact ⟨s, rfl, g1.swap, g2⟩
/-- A lookup of glyphs from 0 on, in a row. -/
def vals16 (l : List Nat) : List UInt8 := l.flatMap fun x => beN 2 x
def sub8 (l : List Nat) : List UInt8 := beN 2 8 ++ beN 2 0 ++ beN 2 l.length ++ vals16 l
def lksB (subs : List (List Nat)) : List UInt8 := subs.flatMap sub8
def offsB (m : Nat) (subs : List (List Nat)) (j : Nat) : List UInt8 := (List.range j).flatMap fun i => beN 4 (4 * m + (lksB (subs.take i)).length)
def ctxB (p : PlanL) (subs : List (List Nat)) : List UInt8 :=
  splice (planB p 2 4 ++ offsB subs.length subs subs.length) 16 (beN 4 (planB p 2 4).length) ++ lksB subs
theorem vals16_length (l : List Nat) : (vals16 l).length = 2 * l.length := by
  induction l with
  | nil => rfl
  | cons x l ih => simp only [vals16, List.flatMap_cons, List.length_append, beN_length, List.length_cons] at *; omega
theorem sub8_length (l : List Nat) : (sub8 l).length = 6 + 2 * l.length := by
  simp only [sub8, List.length_append, beN_length, vals16_length]
theorem vals16_snoc (l : List Nat) (q : Nat) (h : q < l.length) : vals16 (l.take (q + 1)) = vals16 (l.take q) ++ beN 2 (l.getD q 0) := by
  unfold vals16
  rw [List.take_add_one, List.flatMap_append, List.getElem?_eq_getElem h, List.getD_eq_getElem?_getD, List.getElem?_eq_getElem h]
  simp
theorem lksB_snoc (subs : List (List Nat)) (j : Nat) (r : List Nat) (h : subs[j]? = some r) : lksB (subs.take (j + 1)) = lksB (subs.take j) ++ sub8 r := by
  unfold lksB
  rw [List.take_add_one, List.flatMap_append, h]
  simp
theorem offsB_snoc (m : Nat) (subs : List (List Nat)) (j : Nat) : offsB m subs (j + 1) = offsB m subs j ++ beN 4 (4 * m + (lksB (subs.take j)).length) := by
  unfold offsB
  rw [List.range_succ, List.flatMap_append]
  simp
theorem offsB_length (m : Nat) (subs : List (List Nat)) : ∀ j, (offsB m subs j).length = 4 * j
  | 0 => rfl
  | j + 1 => by rw [offsB_snoc, List.length_append, offsB_length m subs j, beN_length]; omega
theorem lksB_le (subs : List (List Nat)) (h : ∀ r ∈ subs, r.length ≤ 100) : (lksB subs).length ≤ 206 * subs.length := by
  induction subs with
  | nil => simp [lksB]
  | cons r l ih =>
    have h1 := h r (by simp)
    have h2 := ih (fun x hx => h x (by simp [hx]))
    simp only [lksB, List.flatMap_cons, List.length_append, List.length_cons, sub8_length] at *
    omega
theorem lksB_take (subs : List (List Nat)) (h : ∀ r ∈ subs, r.length ≤ 100) (j : Nat) : (lksB (subs.take j)).length ≤ 206 * subs.length := by
  have := lksB_le (subs.take j) (fun r hr => h r (List.mem_of_mem_take hr))
  rw [List.length_take] at this
  omega
theorem planB_len1 (p : PlanL) (hC : p.cls.length ≤ 1000) (hR : p.rows.length ≤ 1000) (hE : p.ents.length ≤ 1000) : 26 ≤ (planB p 2 4).length ∧ (planB p 2 4).length ≤ 100000 := by
  have h1 : (planB p 2 4).length = 22 + 4 + 2 * p.cls.length + 2 * (p.rows.length * p.n) + p.ents.length * 8 := by
    simp only [planB, ofB, List.length_append, beN_length, List.length_replicate, clsB_length, rowsPB_length, entsPB_length 2 _ (by decide)]
    omega
  have h2 : p.rows.length * p.n ≤ 1000 * 11 := Nat.mul_le_mul hR (by unfold PlanL.n; omega)
  omega
/-- Lookups' numbers in memory. -/
structure SubsHas (w : World) (aS : Option Addr) (subs : List (List Nat)) (sv : List Value) : Prop where
  has : Has w aS sv
  len : sv.length = subs.length
  each : ∀ (i : Nat) (r : List Nat), subs[i]? = some r → ∃ (ai : Option Addr) (ci : Nat), sv[i]? = some (Value.slice ai r.length ci) ∧ Has w ai (u16V r)
theorem SubsHas.below {w w' : World} {aS : Option Addr} {subs : List (List Nat)} {sv : List Value} (h : SubsHas w aS subs sv) (hb : Below w.heap.size w w') : SubsHas w' aS subs sv :=
  ⟨h.has.below hb, h.len, fun i r hr => by obtain ⟨ai, ci, h1, h2⟩ := h.each i r hr; exact ⟨ai, ci, h1, h2.below hb⟩⟩
theorem splice_take {α : Type} (L cs : List α) (o n : Nat) (h : o + cs.length ≤ n) (hn : n ≤ L.length) : (splice L o cs).take n = splice (L.take n) o cs := by
  unfold splice
  rw [List.take_append, List.take_append, List.take_take, List.take_take, List.length_take, Nat.min_eq_left (by omega : o ≤ L.length), Nat.min_eq_right (by omega : o ≤ n), Nat.min_eq_left (by omega : o ≤ n), List.take_of_length_le (by omega : cs.length ≤ n - o), List.drop_take, Nat.sub_sub]
/-- 'copy' into the middle of a row of the call's own. -/
theorem wpCopyRow {P : Program} {w : World} {o : Oper} {a : Act} {K : Act → World → Prop} {Q : Exit → Act → World → Prop} (d s : Operand) (dT sT : TypeId)
    (ho : o.op = .call { callee := .builtin .copy, args := #[d, s], argTypes := #[dT, sT] }) (elem : TypeId) (hu : P.underlying dT = some (.slice elem)) (hsz : (P.info? elem).map (·.size) = some 1)
    (base g n c : Nat) (xs : List Value) (hown : w.ownsRow base elem 1 (.slice (some ⟨g, 0, none⟩) n c) n xs)
    (off dLen dCap : Nat) (ad : Addr) (sLen sCap : Nat) (hd : a.eval d = .slice (some ⟨g, off, none⟩) dLen dCap) (hs : a.eval s = .slice (some ad) sLen sCap)
    (cs : List Value) (hn : cs.length = Nat.min sLen dLen * 1) (hsrc : ∀ j v, cs[j]? = some v → w.cell? (ad.add j) = some v) (hfit : off + cs.length ≤ n) (h1 : ∀ v ∈ cs, v.oneCell' = true)
    (h : ∀ w', w'.ownsRow base elem 1 (.slice (some ⟨g, 0, none⟩) n c) n (splice xs off cs) → (∀ k, k ≠ g → w'.heap[k]? = w.heap[k]?) → w'.heap.size = w.heap.size → Below g w w' → K (a.put o.dst (goInt (Nat.min sLen dLen))) w') : o.wp P a w K Q := by
  rcases hown.2 with ⟨hv, _⟩ | ⟨b, cap, cur, hv, hg, hh, hnc, hm, hcs, hx⟩
  · cases hv
  · injection hv with e1 _ e3
    injection e1 with e1
    injection e1 with e1 _ _
    subst e1 e3
    have hl : xs.length = n := by have := hown.1; omega
    refine wpCopyO d s dT sT ho elem 1 hu hsz g off dLen dCap ad sLen sCap hd hs cur elem hh cs hn hsrc (by omega) h1 fun w' g1 g2 g3 g4 => h w' ⟨?_, .inr ⟨g, c, _, rfl, hg, g1, hnc, hm, ?_, ?_⟩⟩ g2 g3 g4
    · rw [length_splice xs off cs (by omega), hl]; omega
    · rw [List.size_toArray, length_splice cur.toList off cs (by rw [Array.length_toList (xs := cur)]; omega), Array.length_toList (xs := cur), hcs]
    · rw [Nat.mul_one] at hx ⊢
      rw [← hx]
      exact splice_take _ cs off n (by omega) (by rw [Array.length_toList (xs := cur)]; omega)
theorem u8_one : (Try.prog.info? 5).map (·.size) = some 1 := by kernel_rfl
theorem Two2.first {B : Nat} {x1 x2 : List UInt8} {v1 v2 : Value} {w : World} (h : Two2 B x1 x2 v1 v2 w) : ∃ a c, v1 = .slice a x1.length c ∧ Two2 B x1 x2 (.slice a x1.length c) v2 w := by
  obtain ⟨a1, c1, a2, c2, rfl, rfl, h3⟩ := h
  exact ⟨a1, c1, rfl, a1, c1, a2, c2, rfl, rfl, h3⟩
theorem owns_some {w : World} {base e size n c : Nat} {a : Option Addr} {xs : List Value} (h : w.ownsRow base e size (.slice a n c) n xs) (h0 : 0 < n) : ∃ g, a = some ⟨g, 0, none⟩ ∧ base ≤ g ∧ g < w.heap.size := by
  rcases h.2 with ⟨hv, h1⟩ | ⟨g, _, _, hv, hg, hh, _⟩
  · omega
  · injection hv with hv _ _
    exact ⟨g, hv, hg, (Array.getElem?_eq_some_iff.1 hh).1⟩
theorem bytesV_splice (X D : List UInt8) (o : Nat) : splice (bytesV X) o (bytesV D) = bytesV (splice X o D) := by
  simp [splice, bytesV, List.map_take, List.map_drop]
set_option maxRecDepth 100000 in
set_option maxHeartbeats 6400000 in
theorem write15_any (p : PlanL) (aC aR aE : Option Addr) (rv : List Value) (cC cR cE : Nat) (aS : Option Addr) (nS cS : Nat) (subs : List (List Nat)) (sv : List Value) (w : World) (h : PlanHas w p aC aR rv aE) (hC : p.cls.length ≤ 1000) (hR : p.rows.length ≤ 1000) (hE : p.ents.length ≤ 1000) (hwf : ∀ e ∈ p.ents, wfI e.1 ∧ wfI e.2.1 ∧ wfI e.2.2.1 ∧ wfI e.2.2.2)
    (hS : SubsHas w aS subs sv) (hnS : subs.length = nS) (hn1 : nS ≤ 100) (hlen : ∀ r ∈ subs, r.length ≤ 100) (h16 : ∀ r ∈ subs, ∀ x ∈ r, x ≤ 65535) :
    Calls Try.prog 14 #[.agg #[.slice aC p.cls.length cC, .slice aR p.rows.length cR, .slice aE p.ents.length cE, .int .u8 (p.wide.toNat : Nat)], .slice aS nS cS] w fun e w' => ∃ a' c', e = .returned (.slice a' (ctxB p subs).length c') ∧ w'.ownsRow w.heap.size 5 1 (.slice a' (ctxB p subs).length c') (ctxB p subs).length (bytesV (ctxB p subs)) ∧ (ctxB p subs).length ≤ c' ∧ c' ≤ maxLen ∧ (a' = none → c' = 0) ∧ Below w.heap.size w w' := by
  have hAC := allocC
  have hAF := allocF
  have HW := Lib.hid (fun W (hW : Below w.heap.size w W) => write_any p 2 4 2 4 rfl rfl aC aR aE rv cC cR cE W (h.below hW) hC hR hE (by omega) (by decide) hwf)
  have hL1 := planB_len1 p hC hR hE
  have hX1 := fun j => lksB_take subs hlen j
  have HSH := Lib.hid hS
  have HLEN := Lib.hid hlen
  have H16 := Lib.hid h16
  have HNS := Lib.hid hnS
  have HCB := Lib.hid (show ctxB p subs = splice (planB p 2 4 ++ offsB nS subs nS) 16 (beN 4 (planB p 2 4).length) ++ lksB subs from by unfold ctxB; rw [hnS])
  have HOL := Lib.hid (fun j => offsB_length nS subs j)
  rw [hnS] at hX1
  generalize planB p 2 4 = P at *
  generalize p.cls.length = nC at *
  generalize p.rows.length = nR at *
  generalize p.ents.length = nE at *
  generalize (p.wide.toNat : Int) = wd at *
  obtain ⟨N, hN⟩ : ∃ N, N = P.length := ⟨_, rfl⟩
  rw [← hN] at HW hL1 HCB
  have HN := Lib.hid hN
  clear h hS hlen h16 hnS hN hwf hC hR hE
  go_enter Try.func14, Try.ntmps14
  go_wp2_with (go_at_call 40; (with_reducible refine (HW.out _ (by exact blw)).mono ?_); rintro e w1 ⟨a1, c1, rfl, ho, k1, k2, k3, hb1⟩; have HO1 := Lib.hid (owns_mono ho (show w.heap.size ≤ _ from by simp only [World.size_alloc]; omega)); have HB1 := Lib.hid (show Below w.heap.size w w1 from by exact blw); clear ho k1 k2 k3 hb1)
  have hz1 := HB1.out.size
  have HT1 := Lib.hid (show Two2 w.heap.size (P ++ offsB nS subs 0) (lksB (subs.take 0)) (.slice a1 N c1) (.slice none 0 0) w1 from ⟨a1, c1, none, 0, by simp [offsB, HN.out], by simp [lksB], by
    have e1 : P ++ offsB nS subs 0 = P := by simp [offsB]
    rw [e1, ← HN.out]
    exact ⟨HO1.out, by simp only [lksB, List.take_zero, List.flatMap_nil, List.length_nil]; exact World.ownsRow_nil _ _ _ _, fun p q _ h => by cases h⟩⟩)
  clear HO1
  go_loopw [5, 7, 18] (fun b lk i wr => ∃ j : Nat, j ≤ nS ∧ i = .int .i64 (j : Nat) ∧ Two2 w.heap.size (P ++ offsB nS subs j) (lksB (subs.take j)) b lk wr ∧ Below w.heap.size w wr) (fun _ _ i _ => nS - (Go.RowKit.intOf i).toNat)
  case atStart => exact ⟨0, Nat.zero_le _, rfl, HT1.out, HB1.out⟩
  case round =>
    obtain ⟨j, hj, rfl, ht, hb⟩ := hrel
    rename World => wr
    have HB := Lib.hid hb
    have hzr := hb.size
    have hjl := hX1 j
    have hol : (P ++ offsB nS subs j).length = N + 4 * j := by rw [List.length_append, HOL.out, ← HN.out]
    obtain ⟨aL, cL, rfl, ht2⟩ := ht.swap.first
    have HT := Lib.hid ht2.swap
    clear ht ht2 hb
    by_cases hlt : j < nS
    · obtain ⟨r, hr⟩ : ∃ r, subs[j]? = some r := ⟨_, List.getElem?_eq_getElem (by rw [HNS.out]; exact hlt)⟩
      obtain ⟨ai, ci, hv, hrb⟩ := HSH.out.each j r hr
      obtain ⟨bR, oR, hbR, hblR, hcell⟩ := (HSH.out.has.below HB.out).get (by rw [HSH.out.len, HNS.out]; omega)
      have e0 := hcell j _ hv
      have HSN := Lib.hid (lksB_snoc subs j r hr)
      have HOS := Lib.hid (show P ++ offsB nS subs (j + 1) = P ++ offsB nS subs j ++ beN 4 (4 * nS + (lksB (subs.take j)).length) from by rw [offsB_snoc, List.append_assoc])
      have hrm := HLEN.out r (List.mem_of_getElem? hr)
      have HR16 := Lib.hid (H16.out r (List.mem_of_getElem? hr))
      have HRB := Lib.hid hrb
      have hsl : (sub8 r).length = 6 + 2 * r.length := sub8_length r
      have HS8 := Lib.hid (show sub8 r = beN 2 8 ++ beN 2 0 ++ beN 2 r.length ++ vals16 r from rfl)
      subst hbR
      clear hcell hv hrb hr
      generalize lksB (subs.take j) = X at *
      obtain ⟨XL, hXL⟩ : ∃ XL, XL = X.length := ⟨_, rfl⟩
      rw [← hXL] at hjl HT HOS ⊢
      have HXL := Lib.hid hXL
      generalize P ++ offsB nS subs j = Y at *
      generalize hrl : r.length = rl at *
      have HRL := Lib.hid hrl
      clear hrl hXL
      have HP1 := Lib.hid (Two2.putA (v := 4 * nS + XL) (size := 4) (4 * (nS : Int) + (XL : Int)) 4 (by omega) rfl HT.out hzr (by omega) (by omega) (by decide))
      go_wp2_with (first
        | (go_at_call 39; (with_reducible refine HP1.out.mono ?_); rintro e w2 ⟨s2, rfl, ht2, hb2⟩; have hz2 := Nat.le_trans hzr hb2.size; have HB2 := Lib.hid (HB.out.trans hb2); have HP2 := Lib.hid (Two2.putB (v := 8) (size := 2) 8 2 rfl rfl ht2 (by exact hz2) (by omega) (by rw [← HXL.out]; omega) (by decide)); clear ht2 hb2)
        | (go_at_call 39; (with_reducible refine HP2.out.mono ?_); rintro e w3 ⟨s3, rfl, ht3, hb3⟩; have hz3 := Nat.le_trans hz2 hb3.size; have HB3 := Lib.hid (HB2.out.trans hb3); have HP3 := Lib.hid (Two2.putB (v := 0) (size := 2) 0 2 rfl rfl ht3 (by exact hz3) (by omega) (by rw [List.length_append, beN_length, ← HXL.out]; omega) (by decide)); clear ht3 hb3)
        | (go_at_call 39; (with_reducible refine HP3.out.mono ?_); rintro e w4 ⟨s4, rfl, ht4, hb4⟩; have hz4 := Nat.le_trans hz3 hb4.size; have HB4 := Lib.hid (HB3.out.trans hb4); have HP4 := Lib.hid (Two2.putB (v := rl) (size := 2) (rl : Int) 2 rfl rfl ht4 (by exact hz4) (by omega) (by rw [List.length_append, List.length_append, beN_length, beN_length, ← HXL.out]; omega) (by decide)); clear ht4 hb4)
        | (go_at_call 39; (with_reducible refine HP4.out.mono ?_); rintro e w5 ⟨s5, rfl, ht5, hb5⟩; have HB5 := Lib.hid (HB4.out.trans hb5); have HT5 := Lib.hid ht5; clear ht5 hb5))
      go_loopw [7, 38] (fun lk i wu => ∃ q : Nat, q ≤ rl ∧ i = .int .i64 (q : Nat) ∧ Two2 w.heap.size (Y ++ beN 4 (4 * nS + XL)) (X ++ beN 2 8 ++ beN 2 0 ++ beN 2 rl ++ vals16 (r.take q)) s2 lk wu ∧ Below w.heap.size w wu) (fun _ i _ => rl - (Go.RowKit.intOf i).toNat)
      case atStart => exact ⟨0, Nat.zero_le _, rfl, by have := HT5.out; simpa [vals16] using this, HB5.out⟩
      case round =>
        obtain ⟨q, hq, rfl, ht, hb⟩ := hrel
        rename World => wu
        have HBU := Lib.hid hb
        have hzu := hb.size
        by_cases hlq : q < rl
        · have hHr := HRB.out.below hb
          obtain ⟨bI, oI, hbI, hblI, hcI⟩ := hHr.get (by rw [u16V_length, HRL.out]; omega)
          have e1 := hcI q _ (u16V_get r q (by rw [HRL.out]; exact hlq))
          have hx : r.getD q 0 ≤ 65535 := HR16.out _ (by rw [List.getD_eq_getElem?_getD, List.getElem?_eq_getElem (by rw [HRL.out]; exact hlq)]; exact List.getElem_mem _)
          have HVS := Lib.hid (vals16_snoc r q (by rw [HRL.out]; exact hlq))
          have hvl : (X ++ beN 2 8 ++ beN 2 0 ++ beN 2 rl ++ vals16 (r.take q)).length ≤ 100000 := by simp only [List.length_append, beN_length, vals16_length, List.length_take, ← HXL.out]; omega
          generalize r.getD q 0 = x at *
          have hc1 : IntKind.i64.wrap ((x : Nat) : Int) = (x : Int) := IntWalk.i64_in _ (by omega)
          have HP6 := Lib.hid (Two2.putB (v := x) (size := 2) (x : Int) 2 rfl rfl ht (by exact hzu) (by omega) (by omega) (by decide))
          subst hbI
          clear hcI hHr ht hb hvl
          go_wp2_with (first | (go_at_call 39; (with_reducible refine HP6.out.mono ?_); rintro e w6 ⟨s6, rfl, ht6, hb6⟩; have HT6 := Lib.hid ht6; have HB6 := Lib.hid (HBU.out.trans hb6); clear ht6 hb6))
          go_roundw
          case rel => exact ⟨q + 1, hlq, by go_num, by rw [HVS.out, ← List.append_assoc]; exact HT6.out, HB6.out⟩
          case measure => simp [Go.RowKit.intOf]; omega
        · obtain rfl : rl = q := by omega
          have HTU := Lib.hid ht
          clear ht hb
          go_wp2_with fail
          go_roundw
          case rel => exact ⟨j + 1, hlt, by go_num, by rw [HSN.out, HS8.out, HOS.out]; simp only [← List.append_assoc]; have := HTU.out; rwa [List.take_of_length_le (by rw [HRL.out]; exact Nat.le_refl _)] at this, HBU.out⟩
          case measure => simp [Go.RowKit.intOf]; omega
    · obtain rfl : nS = j := by omega
      have ht := HT.out
      rw [show subs.take nS = subs from List.take_of_length_le (by rw [HNS.out]; exact Nat.le_refl _)] at ht hjl
      obtain ⟨ab, cb, rfl, ht2⟩ := ht.first
      rw [show subs.take nS = subs from List.take_of_length_le (by rw [HNS.out]; exact Nat.le_refl _)] at *
      obtain ⟨a1', c1', a2', c2', e1, e2, htw⟩ := ht2
      rw [hol] at e1 htw
      injection e1 with e11 _ e12
      injection e2 with e21 _ e22
      subst e11 e12 e21 e22
      obtain ⟨_, _, e3, kb1, kb2, kb3⟩ := owns_slice htw.o1
      cases e3
      obtain ⟨_, _, e4, kl1, kl2, kl3⟩ := owns_slice htw.o2
      cases e4
      obtain ⟨LL, hLL⟩ : ∃ LL, LL = (lksB subs).length := ⟨_, rfl⟩
      rw [← hLL] at hjl htw kl1
      rw [hol, ← hLL]
      obtain ⟨gb, rfl, hgb1, hgb2⟩ := owns_some htw.o1 (by omega)
      have HTW := Lib.hid htw
      have HKL := Lib.hid kl3
      have HBL := Lib.hid hLL
      have HPN := Lib.hid (fun W => put_zz W.heap.size none 0 0 N 4 4 (N : Int) 4 rfl rfl rfl [] W (World.ownsRow_nil _ _ _ _) (Nat.le_refl _) (by omega) (by omega) (by omega))
      have HDL := Lib.hid (show (beN 4 N).length = 4 from beN_length 4 N)
      obtain ⟨M, hM⟩ : ∃ M, M = N + 4 * nS := ⟨_, rfl⟩
      rw [← hM] at HTW ⊢
      rw [← hM] at kb1
      have hM20 : 20 ≤ M := by omega
      have hMb : M ≤ 100400 := by omega
      have HM := Lib.hid hM
      have HPM := Lib.hid (hol.trans hM.symm)
      clear htw hLL hol HT ht kb3 kl3 hM
      go_wp2_with fail
      refine wp_region_last (.step 0 (.step 1 (.step 2 (.step 3 (.step 4 .nil))))) 4 (by kernel_rfl) (by kernel_rfl) (by kernel_rfl) (by kernel_rfl) (by kernel_rfl) (by intro _ _ d_ _ _ h_; cases d_ <;> first | exact h_ | (dsimp +zetaDelta only at h_ ⊢; exact h_)) (fun w' => ∃ p : Wld wr [], w' = p.val) (wld_start _ _) ?_
      have hG_ := @wldC wr
      (refine z_quiet (by simp only [List.getElem?_toArray, List.getElem?_cons_succ, List.getElem?_cons_zero]; rfl) (by rfl) (by rfl) (fun K_ hK_ => ?_); go_big_quiet_op; refine hK_ _ ?_; clear hK_ K_)
      (refine z_quiet (by simp only [List.getElem?_toArray, List.getElem?_cons_succ, List.getElem?_cons_zero]; rfl) (by rfl) (by rfl) (fun K_ hK_ => ?_); go_big_quiet_op; refine hK_ _ ?_; clear hK_ K_)
      (refine z_quiet (by simp only [List.getElem?_toArray, List.getElem?_cons_succ, List.getElem?_cons_zero]; rfl) (by rfl) (by rfl) (fun K_ hK_ => ?_); go_big_quiet_op; refine hK_ _ ?_; clear hK_ K_)
      (refine z_run (by simp only [List.getElem?_toArray, List.getElem?_cons_succ, List.getElem?_cons_zero]; rfl) (by rfl) (by rfl) (fun K_ hK_ => ?_); have HK_ := Lib.hid hK_; clear hK_; (first | ((refine wpCopyRow _ _ 22 22 rfl 5 Try.underlying22 u8_one w.heap.size gb M cb (bytesV (P ++ offsB nS subs nS)) HTW2.out.o1 16 4 _ ⟨gd, 0, none⟩ 4 _ rfl rfl (bytesV (beN 4 N)) (by rw [bytesV_length, HDL.out]; rfl) (fun j v hj => by obtain ⟨p, hp, hc⟩ := HD2.out j v hj; cases hp; exact hc) (by rw [bytesV_length, HDL.out]; omega) (bytesV_one _) ?_; intro w3 ho3 hk3 hz3 hb3; rw [bytesV_splice] at ho3; have HO3 := Lib.hid ho3; have HK3 := Lib.hid (show ∀ k, k ≠ gb → w3.heap[k]? = w2.heap[k]? from hk3); have HZ3 := Lib.hid (show w3.heap.size = w2.heap.size from hz3); have HB3 := Lib.hid (show Below w.heap.size w w3 from HB2.out.trans (Below.mono hb3 hgb1)); clear ho3 hk3 hz3 hb3)) | (go_wp2_with (first | (go_at_call 39; (with_reducible refine (HPN.out _).mono ?_); rintro e w2 ⟨a2, c2, rfl, ho, _, _, _, hb2, _⟩; obtain ⟨gd, rfl, _, _⟩ := owns_some ho (by decide); have HD2 := Lib.hid (has_of_owns ho); have hbr : Below wr.heap.size wr w2 := (by exact blw); have HTW2 := Lib.hid (HTW.out.below hbr); have HB2 := Lib.hid (HB.out.trans (hbr.mono hzr)); clear ho)))); refine HK_.out _ _ (wld_ofA) ?_; clear HK_)
      (refine z_last (by simp only [List.getElem?_toArray, List.getElem?_cons_succ, List.getElem?_cons_zero]; rfl) (by rfl) (by rfl) (by rfl) (fun K_ hK_ => ?_); have HK_ := Lib.hid hK_; clear hK_; (first | ((refine wpCopyRow _ _ 22 22 rfl 5 Try.underlying22 u8_one w.heap.size gb M cb (bytesV (P ++ offsB nS subs nS)) HTW2.out.o1 16 4 _ ⟨gd, 0, none⟩ 4 _ rfl rfl (bytesV (beN 4 N)) (by rw [bytesV_length, HDL.out]; rfl) (fun j v hj => by obtain ⟨p, hp, hc⟩ := HD2.out j v hj; cases hp; exact hc) (by rw [bytesV_length, HDL.out]; omega) (bytesV_one _) ?_; intro w3 ho3 hk3 hz3 hb3; rw [bytesV_splice] at ho3; have HO3 := Lib.hid ho3; have HK3 := Lib.hid (show ∀ k, k ≠ gb → w3.heap[k]? = w2.heap[k]? from hk3); have HZ3 := Lib.hid (show w3.heap.size = w2.heap.size from hz3); have HB3 := Lib.hid (show Below w.heap.size w w3 from HB2.out.trans (Below.mono hb3 hgb1)); clear ho3 hk3 hz3 hb3)) | (go_wp2_with (first | (go_at_call 39; (with_reducible refine (HPN.out _).mono ?_); rintro e w2 ⟨a2, c2, rfl, ho, _, _, _, hb2, _⟩; obtain ⟨gd, rfl, _, _⟩ := owns_some ho (by decide); have HD2 := Lib.hid (has_of_owns ho); have hbr : Below wr.heap.size wr w2 := (by exact blw); have HTW2 := Lib.hid (HTW.out.below hbr); have HB2 := Lib.hid (HB.out.trans (hbr.mono hzr)); clear ho)))); refine HK_.out _ _ ?_; clear HK_)
      refine z_nil ?_
      clear hG_
      have HLK := Lib.hid (show Has w3 aL (bytesV (lksB subs)) from by
        have h2 := has_of_owns HTW2.out.o2
        intro j u hu
        obtain ⟨p, hp, hc⟩ := h2 j u hu
        refine ⟨p, hp, ?_⟩
        rw [← hc]
        unfold World.cell?
        rw [add_block, HK3.out p.block (fun e => HTW2.out.f _ _ rfl hp e.symm)])
      have HLT := Lib.hid (show (ctxB p subs).length = M + LL from by
        rw [HCB.out, List.length_append, length_splice _ 16 _ (by rw [HDL.out, HPM.out]; omega), HPM.out, HBL.out])
      have hw3 := HB3.out.size
      clear hM20 kb1 hjl kl1
      have hLLb : LL ≤ 206 * nS := by have := hX1 nS; rwa [List.take_of_length_le (by rw [HNS.out]; exact Nat.le_refl _), ← HBL.out] at this
      go_wp2_with (at_builtin; refine wpApp rfl _ _ 22 rfl w.heap.size 5 (.int .u8 0) 1 1 Try.underlying22 u8_info rfl (by decide) _ M (bytesV (splice (P ++ offsB nS subs nS) 16 (beN 4 N))) rfl (by first | exact HO3.out | exact owns_below HO3.out (bdrew1 (brefl _)) (Nat.le_refl _)) aL LL cL (bytesV (lksB subs)) rfl (by rw [bytesV_length, HBL.out]; omega) (by first | exact HLK.out | exact HLK.out.below (bdrew1 (brefl _))) HKL.out (bytesV_one _) (by unfold maxLen; omega) (by omega) (by first | exact hw3 | (simp; omega)) ?_; intro a8 c8 w8 ho8 k81 k82 k83 hb8 _; rw [← bytesV_append, ← HCB.out] at ho8; have HO8 := Lib.hid ho8; have HA8 := Lib.hid k83; have HB8 := Lib.hid (HB3.out.trans hb8); clear ho8 k83 hb8)
      go_ret
      rw [HLT.out]
      exact ⟨a8, c8, rfl, HO8.out, k81, k82, HA8.out, HB8.out⟩
end Go.Proofs.Ytcegoenlajkgfaa
end
