
/- IN WHATEVER ORDER: settings that don't stand for each other, by a font's own features, may change places. No condition but those of the statement. -/
import Derived.Test.YtfnghinefbmlmaaPickC
import Derived.Test.YtfnghinefbmlmaaFeatO
import Derived.Test.YtfnghinefbmlmaaLate
namespace Go.Proofs.Ytfnghinefbmlmaa
open Go.RowKit Go.Lib

theorem own_put2 {w : World} {B gm n c : Nat} {l : List St} (h : w.ownsRow B 44 2 (.slice (some ⟨gm, 0, none⟩) n c) n (gv l)) (j : Nat) (hj : j < n) (x : St) :
    ((w.setCell ⟨gm, j * 2, none⟩ (.int .i64 x.1)).setCell ⟨gm, j * 2 + 1, none⟩ (.int .i64 x.2)).ownsRow B 44 2 (.slice (some ⟨gm, 0, none⟩) n c) n (gv (l.set j x)) := by
  obtain ⟨g1, _, _, e1, _, _, _, _, _, s1⟩ := row_at h (j * 2) (by omega)
  injection e1 with e1
  injection e1 with e1
  subst e1
  obtain ⟨g2, _, _, e2, _, _, _, _, _, s2⟩ := row_at (s1 (.int .i64 x.1)) (j * 2 + 1) (by omega)
  injection e2 with e2
  injection e2 with e2
  subst e2
  have := s2 (.int .i64 x.2)
  rwa [gv_set] at this
theorem owns_cap {w : World} {B e s n c : Nat} {a : Option Addr} {xs : List Value} (h : w.ownsRow B e s (.slice a n c) n xs) : n ≤ c ∧ c ≤ maxLen := by
  obtain ⟨a', c', e', h1, h2, _⟩ := owns_slice h
  injection e' with _ _ e'
  subst e'
  exact ⟨h1, h2⟩
theorem ruP_info : (Try.prog.info? 58).map (fun i => (i.zero, i.size, i.bytes)) = some (some (.agg #[.int .i64 0, .int .i64 0, .int .u32 0, .int .u32 0]), 4, 24) := by kernel_rfl
theorem ruV_app (a b : List RuleV) : ruV (a ++ b) = ruV a ++ ruV b := by simp [ruV]
structure SetAt (w : World) (gm B : Nat) (k : Nat) (s : St) : Prop where
  c0 : w.cell? ⟨gm, k * 2, none⟩ = some (.int .i64 s.1)
  c1 : w.cell? ⟨gm, k * 2 + 1, none⟩ = some (.int .i64 s.2)
  f0 : w.frozen? ⟨gm, k * 2, none⟩ = false
  f1 : w.frozen? ⟨gm, k * 2 + 1, none⟩ = false
theorem set_at {w : World} {B n c : Nat} {a : Option Addr} {l : List St} (h : w.ownsRow B 44 2 (.slice a n c) n (gv l)) {k : Nat} {s : St} (hs : l[k]? = some s) (hk : k < n) : ∃ gm, a = some ⟨gm, 0, none⟩ ∧ B ≤ gm ∧ gm < w.heap.size ∧ SetAt w gm B k s := by
  obtain ⟨g1, _, _, e1, hB, hh, _, _, f1, _⟩ := row_at h (k * 2) (by omega)
  obtain ⟨g2, _, _, e2, _, _, _, _, f2, _⟩ := row_at h (k * 2 + 1) (by omega)
  obtain ⟨b, o, e3, hbl, c0, c1⟩ := set_cells (has_of_owns h) hs
  rw [e1] at e2 e3
  injection e2 with e2
  injection e2 with e2
  injection e3 with e3
  injection e3 with e3 e4
  subst e2 e3 e4
  rw [Nat.zero_add] at c0 c1
  exact ⟨g1, e1, hB, hbl, ⟨c0, c1, f1, f2⟩⟩
set_option maxRecDepth 100000 in
set_option maxHeartbeats 16000000 in
theorem wholeChoices_walk (la : Option Addr) (n lc : Nat) (ps : List PlanF) (sa : Option Addr) (sn sc : Nat) (l : List St) (ka : Option Addr) (kn kc : Nat) (ks : List UInt8) (w : World)
    (h : Has w la (plansF ps)) (hl : ps.length = n) (hps : ∀ p ∈ ps, p.ty ≤ 65535 ∧ p.fl ≤ 65535 ∧ (∀ s ∈ p.ss, s ≤ 65535) ∧ Has w p.a (n16V p.ss)) (hn : n ≤ maxLen)
    (hs : Has w sa (gv l)) (hsl : l.length = sn) (hsw : ∀ s ∈ l, wfS s) (hsn : sn ≤ maxLen) (hsa : sa = none → sc = 0) (hk : Has w ka (bytesV ks)) (hkl : ks.length = kn) (hkn : kn ≤ maxLen) :
    Calls Try.prog 10 #[.slice la n lc, .slice sa sn sc, .slice ka kn kc] w fun e w' => e = .returned (.bool true) ∧ Below w.heap.size w w' := by
  have hAC := allocC
  have hAF := allocF
  unfold maxLen at hn hsn hkn
  have HSP := Lib.hid (fun W => choice_speaks W)
  by_cases hb1 : 20 < n
  · have d1 : decide (20 < (n : Int)) = true := by simp; omega
    go_enter Try.func10, Try.ntmps10
    go_wp2_with (go_at_call 17; (with_reducible refine (HSP.out _).mono ?_); rintro e w1 ⟨⟨a', c', rfl⟩, hb1⟩)
    go_ret
    exact ⟨rfl, hb1⟩
  have d1 : decide (20 < (n : Int)) = false := by simp; omega
  by_cases hb2 : 30 < sn
  · have d2 : decide (30 < (sn : Int)) = true := by simp; omega
    go_enter Try.func10, Try.ntmps10
    go_wp2_with (go_at_call 17; (with_reducible refine (HSP.out _).mono ?_); rintro e w1 ⟨⟨a', c', rfl⟩, hb1⟩)
    go_ret
    exact ⟨rfl, hb1⟩
  have d2 : decide (30 < (sn : Int)) = false := by simp; omega
  by_cases hb3 : 100 < kn
  · have d3 : decide (100 < (kn : Int)) = true := by simp; omega
    go_enter Try.func10, Try.ntmps10
    go_wp2_with (go_at_call 17; (with_reducible refine (HSP.out _).mono ?_); rintro e w1 ⟨⟨a', c', rfl⟩, hb1⟩)
    go_ret
    exact ⟨rfl, hb1⟩
  have d3 : decide (100 < (kn : Int)) = false := by simp; omega
  have HH := Lib.hid h
  have HL := Lib.hid hl
  have HPS := Lib.hid hps
  have HS := Lib.hid hs
  have HSL := Lib.hid hsl
  have HSW := Lib.hid hsw
  have HSA := Lib.hid hsa
  have HK := Lib.hid hk
  have HKL := Lib.hid hkl
  have hn20 : n ≤ 20 := by omega
  have hs30 : sn ≤ 30 := by omega
  have hk100 : kn ≤ 100 := by omega
  clear h hl hps hs hsl hsw hsa hk hkl hn hsn hkn hb1 hb2 hb3
  go_enter Try.func10, Try.ntmps10
  go_wp2_with (go_at_call 17; (with_reducible refine (HSP.out _).mono ?_); rintro e w1 ⟨⟨a', c', rfl⟩, hb1⟩; have HB1 := Lib.hid hb1; have hz1 := hb1.size; clear hb1)
  clear d1 d2 d3 HSP
  go_loopw [46] (fun i wr => ∃ k : Nat, k ≤ n ∧ i = .int .i64 (k : Nat) ∧ (∀ p ∈ ps.take k, p.ss.length ≤ 60) ∧ Below w1.heap.size w1 wr) (fun i _ => n - (intOf i).toNat)
  case atStart => exact ⟨0, Nat.zero_le _, rfl, fun p hp => by simp at hp, Below.refl _ _⟩
  case round =>
    obtain ⟨k, hk, rfl, hlen, hbe⟩ := hrel
    have HLEN := Lib.hid hlen
    have HBE := Lib.hid hbe
    have HBR := Lib.hid (HB1.out.trans (hbe.mono hz1))
    clear hlen hbe
    by_cases hlt : k < n
    · obtain ⟨p, hp⟩ : ∃ p, ps[k]? = some p := ⟨_, List.getElem?_eq_getElem (by rw [HL.out]; exact hlt)⟩
      obtain ⟨bE, oE, hla, hbE, e0, e1, e2⟩ := pl_at (HH.out.below HBR.out) hp
      subst hla
      by_cases h60 : 60 < p.ss.length
      · have d2 : decide (60 < (p.ss.length : Int)) = true := by simp; omega
        clear h60 hp
        generalize p.ss.length = m at *
        generalize p.ty = ty at *
        generalize p.fl = fl at *
        go_wp2_with fail
        go_ret
        exact ⟨rfl, balloc HBR.out _⟩
      · have d2 : decide (60 < (p.ss.length : Int)) = false := by simp; omega
        have HLN := Lib.hid (show ∀ q ∈ ps.take (k + 1), q.ss.length ≤ 60 from fun q hq => by
          rw [take_snoc hp] at hq
          rcases List.mem_append.1 hq with hq | hq
          · exact HLEN.out q hq
          · simp only [List.mem_singleton] at hq
            rw [hq]
            omega)
        clear h60 hp
        generalize p.ss.length = m at *
        generalize p.ty = ty at *
        generalize p.fl = fl at *
        go_wp2_with fail
        go_roundw
        case rel => exact ⟨k + 1, hlt, by go_num, HLN.out, balloc HBE.out _⟩
        case measure => simp [intOf]; omega
    · obtain rfl : n = k := by omega
      have hall : ps.take n = ps := List.take_of_length_le (by rw [HL.out]; exact Nat.le_refl _)
      rw [hall] at HLEN
      clear hall
      have hpl : PlansOk ps wr := ⟨by rw [HL.out]; omega, fun p hp => by
        obtain ⟨p1, p2, p3, p4⟩ := HPS.out p hp
        exact ⟨p1, p2, HLEN.out p hp, p3, p4.below HBR.out⟩⟩
      have hPB : PlB ps := ⟨by rw [HL.out]; omega, fun p hp => by
        obtain ⟨p1, p2, p3, p4⟩ := HPS.out p hp
        exact ⟨p1, p2, HLEN.out p hp, p3⟩⟩
      have HWR := Lib.hid (write8_any la n lc ps wr (HH.out.below HBR.out) HL.out hpl)
      have HREF := Lib.hid (write_ref hPB)
      rw [HL.out] at HREF
      have hbig := HREF.out.big
      clear hpl hPB HLEN HBE HPS HH
      generalize hbs : writeF ps = bs at *
      clear hbs
      generalize hbl : bs.length = bl at *
      have HBL := Lib.hid hbl
      clear hbl
      go_wp2_with (go_at_call 13; (with_reducible refine HWR.out.mono ?_); rintro e w2 ⟨a2, c2, rfl, hown2, hb2⟩; have HO2 := Lib.hid hown2; have HB2 := Lib.hid (bthen HBR.out hb2); clear hown2 hb2 HWR)
      obtain ⟨hbc, hcm⟩ := owns_cap HO2.out
      have HBN := Lib.hid HREF.out.n
      have HFR := Lib.hid (fread_any a2 bl c2 bs w2 (has_of_owns HO2.out) HBL.out (by first | assumption | omega) (by assumption))
      have HRD := Lib.hid (fun W (hW : Below w2.heap.size w2 W) => refF_any a2 bl c2 bs n W ((has_of_owns HO2.out).below hW) HBL.out HREF.out)
      refine HFR.out.mono ?_
      clear HFR
      rintro e w3 ⟨(⟨g, hs, hok, rfl, hm⟩ | ⟨hno, rfl⟩), hb3⟩
      case inr =>
        have HNO := Lib.hid (fun hr => hno ((ftOk_iff HREF.out).2 hr))
        clear hno
        go_wp2_with fail
        refine (HRD.out _ hb3).mono ?_
        rintro e w4 ⟨(⟨hr, _⟩ | ⟨_, rfl⟩), hb4⟩
        case inl => exact absurd hr HNO.out
        go_wp2_with fail
        go_ret
        exact ⟨rfl, bthen (bthen HB2.out hb3) hb4⟩
      have HRT := Lib.hid ((ftOk_iff HREF.out).1 hok)
      have HM := Lib.hid hm
      rw [HBN.out]
      clear hok hm
      go_wp2_with fail
      refine (HRD.out _ hb3).mono ?_
      rintro e w4 ⟨(⟨_, a4, c4, gs, rfl, hgs, hgl, hgt⟩ | ⟨hr, _⟩), hb4⟩
      case inr => exact absurd HRT.out hr
      obtain ⟨fs, hfe, hrf⟩ := both_ok (c2 := c4) HREF.out HRT.out (by have := (HM.out.below hb4).row; rwa [HBN.out] at this) (by have := HM.out.len; rwa [HBN.out] at this) hgs hgl hgt
      have HFE := Lib.hid hfe
      have HRF := Lib.hid hrf
      have HB4 := Lib.hid (bthen (bthen HB2.out hb3) hb4)
      have HS4 := Lib.hid (show SetOk w4 sa sn sc l from ⟨HS.out.below HB4.out, HSL.out, by omega, HSW.out⟩)
      have HK4 := Lib.hid (HK.out.below HB4.out)
      have hz4 := HB4.out.size
      clear hfe hrf hb3 hb4 hgs hgl hgt HM HRT HREF HRD HO2 HB2 HBN HBL HS HSL HSW HK hbc hcm HB1 HBR hz1 hbig
      generalize hex : exF fs = ex at *
      have HEX := Lib.hid hex
      clear hex
      go_wp2_with (first | (at_builtin; refine wpApp rfl _ _ 39 rfl w4.heap.size 44 (.agg #[.int .i64 0, .int .i64 0]) 2 16 Try.underlying39 set_info rfl (by decide) _ 0 [] rfl (World.ownsRow_lit w4 #[] 0 (Nat.le_refl _) (by decide) rfl) sa sn sc (gv l) rfl (by rw [gv_length, HS4.out.len]) (HS4.out.has.below (balloc (brefl _) _)) HSA.out (gv_one _) (by unfold maxLen; omega) (by omega) (by simp) ?_; intro a6 c6 w6 hown6 k61 k62 k63 hb6 hg6; simp only [Nat.zero_add, List.nil_append] at hown6; have HO6 := Lib.hid hown6; have HB6 := Lib.hid ((balloc (brefl w4) _).trans hb6); clear hown6 k61 k62 k63 hb6 hg6; (try dsimp only [Act.put]); (try simp only [Nat.zero_add]); (try simp only [List.setIfInBounds_toArray, List.set_cons_succ, List.set_cons_zero])))
      go_loopw [84] (fun i wr => ∃ (k : Nat) (ms : List St), k ≤ kn ∧ i = .int .i64 (k : Nat) ∧ wr.ownsRow w4.heap.size 44 2 (.slice a6 sn c6) sn (gv ms) ∧ ms.length = sn ∧ (∀ x ∈ ms, wfS x) ∧ (∀ key, lastS ex l key = lastS ex ms key) ∧ Below w4.heap.size w4 wr) (fun i _ => kn - (intOf i).toNat)
      case atStart => exact ⟨0, l, Nat.zero_le _, rfl, HO6.out, HS4.out.len, HS4.out.wf, fun _ => rfl, HB6.out⟩
      case round =>
        rename World => wv
        obtain ⟨j, ms, hj, rfl, hom, hml, hmw, hms, hbv⟩ := hrel
        have HOM := Lib.hid hom
        have HML := Lib.hid hml
        have HMW := Lib.hid hmw
        have HMS := Lib.hid hms
        have HBV := Lib.hid hbv
        clear hom hml hmw hms hbv
        by_cases hlt : j < kn
        · obtain ⟨y, hy⟩ : ∃ y, ks[j]? = some y := ⟨_, List.getElem?_eq_getElem (by rw [HKL.out]; exact hlt)⟩
          obtain ⟨pk, hpk, hck⟩ := (HK4.out.below HBV.out) j (.int .u8 (y.toNat : Nat)) (by simp [bytesV, hy])
          subst hpk
          have hyb : y.toNat < 256 := y.toNat_lt
          generalize y.toNat = z at *
          clear hy
          by_cases hs2 : sn < 2
          · have d1 : decide ((sn : Int) < 2) = true := by simp; omega
            have d1' : decide (sn < 2) = true := by simp; omega
            clear hs2
            go_wp2_with fail
            clear d1 d1' hck hyb
            have HSM := Lib.hid (show SetOk wv a6 sn c6 ms from ⟨has_of_owns HOM.out, HML.out, by omega, HMW.out⟩)
            have HFV := Lib.hid (HFE.out.below HBV.out)
            have HSV := Lib.hid (HS4.out.below HBV.out)
            refine (settle_any sa sn sc l (some ⟨g, 0, none⟩) n n fs wv HSV.out HFV.out).mono ?_
            rintro e w7 ⟨b1, r1, e1, on, rfl, hs7, hset7, _, _, _, _, hb7⟩
            have HS7 := Lib.hid hs7
            have HB7 := Lib.hid hb7
            rw [HEX.out] at hset7
            have HSET := Lib.hid hset7
            clear hs7 hb7 hset7
            go_wp2_with fail
            refine (settle_any a6 sn c6 ms (some ⟨g, 0, none⟩) n n fs w7 (HSM.out.below HB7.out) (HFV.out.below HB7.out)).mono ?_
            rintro e w8 ⟨b2, r2, e2, on2, rfl, hs8, hset8, _, _, _, _, hb8⟩
            rw [HEX.out] at hset8
            obtain rfl := (HSET.out.same hset8 HMS.out).symm
            obtain rfl : r1 = r2 := HS7.out.len.symm.trans hs8.len
            have HS8 := Lib.hid hs8
            have HS7' := Lib.hid (HS7.out.below hb8)
            have HS9 := Lib.hid ((HSV.out.below HB7.out).below hb8)
            have HB8 := Lib.hid (bthen (bthen (bthen HB4.out HBV.out) HB7.out) hb8)
            have hr1 := hs8.small
            clear hs8 hset8 hb8 HS7 HSM HFV HSV HB7 HOM HML HMW HMS HBV HS4 HFE HRF HK4 HEX HO6 HB6 HSA
            go_wp2_with fail
            go_loopw [21, 134] (fun u i wr => ∃ (k : Nat) (ar : Option Addr) (cr : Nat) (rv : List RuleV), k ≤ sn ∧ i = .int .i64 (k : Nat) ∧ u = .slice ar k cr ∧ wr.ownsRow w8.heap.size 58 4 (.slice ar k cr) k (ruV rv) ∧ rv.length = k ∧ (∀ r ∈ rv, wfS r.s) ∧ Below w8.heap.size w8 wr) (fun _ i _ => sn - (intOf i).toNat)
            case atStart => exact ⟨0, none, 0, [], Nat.zero_le _, rfl, rfl, ⟨rfl, .inl ⟨rfl, rfl⟩⟩, rfl, fun r hr => (by cases hr), Below.refl _ _⟩
            case round =>
              rename World => wx
              obtain ⟨k, ar, cr, rv, hk, rfl, rfl, hown, hrl, hrw, hbx⟩ := hrel
              have HO := Lib.hid hown
              have HRL := Lib.hid hrl
              have HRW := Lib.hid hrw
              have HBX := Lib.hid hbx
              have hzx := hbx.size
              clear hown hrl hrw hbx
              by_cases hltk : k < sn
              · obtain ⟨x, hx⟩ : ∃ x, l[k]? = some x := ⟨_, List.getElem?_eq_getElem (by rw [HS9.out.len]; exact hltk)⟩
                have hwx := HS9.out.wf x (List.mem_of_getElem? hx)
                obtain ⟨b, o, ha, hbl, c0, c1⟩ := set_cells (HS9.out.has.below HBX.out) hx
                subst ha
                go_wp2_with fail
                obtain ⟨U, hU⟩ : ∃ U, U = wx.alloc (Obj.cells #[.int .i64 x.1, .int .i64 x.2] 44) := ⟨_, rfl⟩
                have HXU := Lib.hid (show Below wx.heap.size wx U from by rw [hU]; exact balloc (brefl _) _)
                have h23 : U.heap[wx.heap.size]? = some (.cells #[.int .i64 x.1, .int .i64 x.2] 44 (0, 0)) := by rw [hU, heap_push, if_pos rfl]
                rw [← hU]
                have hzU := HXU.out.size
                generalize hg23 : wx.heap.size = g23 at *
                have q23 := fun o => cell_of_heap h23 o
                have l23 := (Array.getElem?_eq_some_iff.1 h23).1
                have HWX := Lib.hid hwx
                have HG23 := Lib.hid hg23
                clear hU c0 c1 hbl hx hwx hg23
                refine wp_region_tree (.step 0 (.step 1 (.step 2 (.step 3 (.step 4 (.step 5 (.step 6 (.step 7 (.step 8 (.step 9 (.step 10 (.step 11 .nil)))))))))))) (by kernel_rfl) (by kernel_rfl) (by kernel_rfl) (by kernel_rfl) (by intro _ _ d_ _ _ h_; cases d_ <;> first | exact h_ | (dsimp +zetaDelta only at h_ ⊢; exact h_)) (fun w' => ∃ p : KepE 58 U, w' = p.val) (kepE_start _ _) ?_
                have hK0_ := fun (p : KepE 58 U) (o : Nat) => p.is.cell h23 (by decide) o
                (refine tree_quiet (by simp only [List.getElem?_toArray, List.getElem?_cons_succ, List.getElem?_cons_zero]; rfl) (by rfl) (by rfl) (fun K_ hK_ => ?_); go_big_quiet_op; refine hK_ _ ?_; clear hK_ K_)
                (refine tree_quiet (by simp only [List.getElem?_toArray, List.getElem?_cons_succ, List.getElem?_cons_zero]; rfl) (by rfl) (by rfl) (fun K_ hK_ => ?_); go_big_quiet_op; refine hK_ _ ?_; clear hK_ K_)
                (refine tree_quiet (by simp only [List.getElem?_toArray, List.getElem?_cons_succ, List.getElem?_cons_zero]; rfl) (by rfl) (by rfl) (fun K_ hK_ => ?_); go_big_quiet_op; refine hK_ _ ?_; clear hK_ K_)
                (refine tree_quiet (by simp only [List.getElem?_toArray, List.getElem?_cons_succ, List.getElem?_cons_zero]; rfl) (by rfl) (by rfl) (fun K_ hK_ => ?_); go_big_quiet_op; refine hK_ _ ?_; clear hK_ K_)
                (refine tree_quiet (by simp only [List.getElem?_toArray, List.getElem?_cons_succ, List.getElem?_cons_zero]; rfl) (by rfl) (by rfl) (fun K_ hK_ => ?_); go_big_quiet_op; refine hK_ _ ?_; clear hK_ K_)
                (refine tree_quiet (by simp only [List.getElem?_toArray, List.getElem?_cons_succ, List.getElem?_cons_zero]; rfl) (by rfl) (by rfl) (fun K_ hK_ => ?_); go_big_quiet_op; refine hK_ _ ?_; clear hK_ K_)
                (refine tree_quiet (by simp only [List.getElem?_toArray, List.getElem?_cons_succ, List.getElem?_cons_zero]; rfl) (by rfl) (by rfl) (fun K_ hK_ => ?_); go_big_quiet_op; refine hK_ _ ?_; clear hK_ K_)
                (refine tree_quiet (by simp only [List.getElem?_toArray, List.getElem?_cons_succ, List.getElem?_cons_zero]; rfl) (by rfl) (by rfl) (fun K_ hK_ => ?_); go_big_quiet_op; refine hK_ _ ?_; clear hK_ K_)
                (refine tree_quiet (by simp only [List.getElem?_toArray, List.getElem?_cons_succ, List.getElem?_cons_zero]; rfl) (by rfl) (by rfl) (fun K_ hK_ => ?_); go_big_quiet_op; refine hK_ _ ?_; clear hK_ K_)
                (refine tree_run (by simp only [List.getElem?_toArray, List.getElem?_cons_succ, List.getElem?_cons_zero]; rfl) (by rfl) (by rfl) (fun K_ hK_ => ?_); have HK_ := Lib.hid hK_; clear hK_; (first | ((refine wpAppO _ _ 55 rfl w8.heap.size 58 (.agg #[.int .i64 0, .int .i64 0, .int .u32 0, .int .u32 0]) 4 24 Try.underlying55 ruP_info rfl (by decide) _ k (ruV rv) rfl (owns_below HO.out (balloc (bdrew1 (show Below wx.heap.size wx U from by rw [HG23.out]; exact HXU.out)) _) (Nat.le_refl _)) ⟨U.heap.size, 0, none⟩ 1 1 (ruV [⟨(x.1, x.2), _, 4294967295⟩]) rfl rfl (has_alloc _ _ _) (fun u hu => by simp [ruV, RuleV.enc] at hu; rcases hu with rfl | rfl | rfl | rfl <;> rfl) (by unfold maxLen; omega) (by omega) (by simp; omega) ?_; intro a9 c9 w9 hown9 k91 k92 k93 hb9 hg9; have hkw : KeptE 58 U w9 := ((KeptE.below (bdrew1 (brefl U))).trans (KeptE.below (balloc (brefl _) _))).trans (KeptE.grown (owns_below HO.out (balloc (bdrew1 (show Below wx.heap.size wx U from by rw [HG23.out]; exact HXU.out)) _) (Nat.le_refl _)) hg9); rw [← ruV_app] at hown9; have HO9 := Lib.hid hown9; have HB9 := Lib.hid (((((HBX.out.trans ((show Below wx.heap.size wx U from by rw [HG23.out]; exact HXU.out).mono (by rw [HG23.out]; exact hzx))).drew).alloc (by simp; omega) _)).trans hb9); clear hown9 k91 k92 k93 hb9 hg9; (try dsimp only [Act.put]); (try simp only [List.setIfInBounds_toArray, List.set_cons_succ, List.set_cons_zero]))) | (go_wp2_with (fail))); refine HK_.out _ _ (kepE_of (by repeat (first | exact KeptE.refl _ _ | assumption | refine KeptE.trans ?_ (KeptE.below (bdrew1 (brefl _))) | refine KeptE.trans ?_ (KeptE.below (balloc (brefl _) _)) | refine KeptE.trans ?_ (KeptE.below (by assumption)) | refine KeptE.trans ?_ (by assumption)))) ?_; clear HK_)
                (refine tree_run (by simp only [List.getElem?_toArray, List.getElem?_cons_succ, List.getElem?_cons_zero]; rfl) (by rfl) (by rfl) (fun K_ hK_ => ?_); have HK_ := Lib.hid hK_; clear hK_; (first | ((refine wpAppO _ _ 55 rfl w8.heap.size 58 (.agg #[.int .i64 0, .int .i64 0, .int .u32 0, .int .u32 0]) 4 24 Try.underlying55 ruP_info rfl (by decide) _ k (ruV rv) rfl (owns_below HO.out (balloc (bdrew1 (show Below wx.heap.size wx U from by rw [HG23.out]; exact HXU.out)) _) (Nat.le_refl _)) ⟨U.heap.size, 0, none⟩ 1 1 (ruV [⟨(x.1, x.2), _, 4294967295⟩]) rfl rfl (has_alloc _ _ _) (fun u hu => by simp [ruV, RuleV.enc] at hu; rcases hu with rfl | rfl | rfl | rfl <;> rfl) (by unfold maxLen; omega) (by omega) (by simp; omega) ?_; intro a9 c9 w9 hown9 k91 k92 k93 hb9 hg9; have hkw : KeptE 58 U w9 := ((KeptE.below (bdrew1 (brefl U))).trans (KeptE.below (balloc (brefl _) _))).trans (KeptE.grown (owns_below HO.out (balloc (bdrew1 (show Below wx.heap.size wx U from by rw [HG23.out]; exact HXU.out)) _) (Nat.le_refl _)) hg9); rw [← ruV_app] at hown9; have HO9 := Lib.hid hown9; have HB9 := Lib.hid (((((HBX.out.trans ((show Below wx.heap.size wx U from by rw [HG23.out]; exact HXU.out).mono (by rw [HG23.out]; exact hzx))).drew).alloc (by simp; omega) _)).trans hb9); clear hown9 k91 k92 k93 hb9 hg9; (try dsimp only [Act.put]); (try simp only [List.setIfInBounds_toArray, List.set_cons_succ, List.set_cons_zero]))) | (go_wp2_with (fail))); refine HK_.out _ _ (kepE_of (by repeat (first | exact KeptE.refl _ _ | assumption | refine KeptE.trans ?_ (KeptE.below (bdrew1 (brefl _))) | refine KeptE.trans ?_ (KeptE.below (balloc (brefl _) _)) | refine KeptE.trans ?_ (KeptE.below (by assumption)) | refine KeptE.trans ?_ (by assumption)))) ?_; clear HK_)
                (refine tree_quiet (by simp only [List.getElem?_toArray, List.getElem?_cons_succ, List.getElem?_cons_zero]; rfl) (by rfl) (by rfl) (fun K_ hK_ => ?_); go_big_quiet_op; refine hK_ _ ?_; clear hK_ K_)
                refine tree_nil ?_
                clear hK0_
                go_wp2_with fail
                go_roundw
                case rel => exact ⟨k + 1, a9, c9, rv ++ [⟨(x.1, x.2), _, 4294967295⟩], hltk, by go_num, rfl, HO9.out, by rw [List.length_append, HRL.out]; rfl, fun r hr => by
                  rcases List.mem_append.1 hr with hr | hr
                  · exact HRW.out r hr
                  · simp only [List.mem_singleton] at hr
                    subst hr
                    exact HWX.out, HB9.out⟩
                case measure => simp [intOf]; omega
              · obtain rfl : sn = k := by omega
                have HRK := Lib.hid (show RuOk wx ar sn cr rv from ⟨has_of_owns HO.out, HRL.out, by omega, HRW.out⟩)
                have HF1 := Lib.hid (fun W (hW : Below wx.heap.size wx W) => flags_any 0 ar sn cr rv b1 r1 e1 on ex l W (HRK.out.below hW) ((HS7'.out.below HBX.out).below hW) HSET.out)
                have HF2 := Lib.hid (fun W (hW : Below wx.heap.size wx W) => flags_any 0 ar sn cr rv b2 r1 e2 on ex l W (HRK.out.below hW) ((HS8.out.below HBX.out).below hW) HSET.out)
                generalize flagsF (onS ex l) 0 rv = FL at *
                have hff : (FL != FL) = false := by simp
                clear HRK HO HRL HRW
                go_wp2_with (first | (go_at_call 22; (with_reducible refine (HF1.out _ (by exact blw)).mono ?_); rintro e w5 ⟨rfl, hb5⟩; have h5c := bc hb5; have h5f := bf hb5; have h5z := hb5.size; try simp only [World.size_alloc, World.size_drew] at h5z) | (go_at_call 22; (with_reducible refine (HF2.out _ (by exact blw)).mono ?_); rintro e w6 ⟨rfl, hb6⟩; have h6c := bc hb6; have h6f := bf hb6; have h6z := hb6.size; try simp only [World.size_alloc, World.size_drew] at h6z))
                have HB6 := Lib.hid (bthen (bthen HBX.out hb5) hb6)
                have HNE := fun (x : St) (hx : wfS x) w => neS x x hx hx w
                clear hb5 h5c h5f h5z hb6 h6c h6f h6z hff HF1 HF2
                go_loopw [167] (fun i wy => ∃ j : Nat, j ≤ r1 ∧ i = .int .i64 (j : Nat) ∧ Below w8.heap.size w8 wy) (fun i _ => r1 - (intOf i).toNat)
                case atStart => exact ⟨0, Nat.zero_le _, rfl, HB6.out⟩
                case round =>
                  rename World => wy
                  obtain ⟨q, hq, rfl, hby⟩ := hrel
                  by_cases hltq : q < r1
                  · obtain ⟨x, hx⟩ : ∃ x, on[q]? = some x := ⟨_, List.getElem?_eq_getElem (by rw [HS8.out.len]; exact hltq)⟩
                    have hne := HNE x (HS8.out.wf x (List.mem_of_getElem? hx))
                    rw [show (x == x) = true from by simp] at hne
                    obtain ⟨b, o, ha, hbl, c0, c1⟩ := set_cells (HS7'.out.has.below hby) hx
                    obtain ⟨b', o', ha', hbl', d0, d1⟩ := set_cells (HS8.out.has.below hby) hx
                    subst ha ha'
                    have HB := Lib.hid hby
                    simp only [Bool.not_true] at hne
                    clear hx HNE hby
                    go_wp2_with fail
                    refine wp_region_tree (.step 0 (.step 1 (.step 2 (.step 3 (.step 4 (.step 5 (.step 6 (.step 7 (.step 8 .nil))))))))) (by kernel_rfl) (by kernel_rfl) (by kernel_rfl) (by kernel_rfl) (by intro _ _ d_ _ _ h_; cases d_ <;> first | exact h_ | (dsimp +zetaDelta only at h_ ⊢; exact h_)) (fun w' => ∃ p : Wld wy [], w' = p.val) (wld_start _ _) ?_
                    have hG_ := @wldC wy
                    (refine tree_quiet (by simp only [List.getElem?_toArray, List.getElem?_cons_succ, List.getElem?_cons_zero]; rfl) (by rfl) (by rfl) (fun K_ hK_ => ?_); go_big_quiet_op; refine hK_ _ ?_; clear hK_ K_)
                    (refine tree_quiet (by simp only [List.getElem?_toArray, List.getElem?_cons_succ, List.getElem?_cons_zero]; rfl) (by rfl) (by rfl) (fun K_ hK_ => ?_); go_big_quiet_op; refine hK_ _ ?_; clear hK_ K_)
                    (refine tree_quiet (by simp only [List.getElem?_toArray, List.getElem?_cons_succ, List.getElem?_cons_zero]; rfl) (by rfl) (by rfl) (fun K_ hK_ => ?_); go_big_quiet_op; refine hK_ _ ?_; clear hK_ K_)
                    (refine tree_quiet (by simp only [List.getElem?_toArray, List.getElem?_cons_succ, List.getElem?_cons_zero]; rfl) (by rfl) (by rfl) (fun K_ hK_ => ?_); go_big_quiet_op; refine hK_ _ ?_; clear hK_ K_)
                    (refine tree_quiet (by simp only [List.getElem?_toArray, List.getElem?_cons_succ, List.getElem?_cons_zero]; rfl) (by rfl) (by rfl) (fun K_ hK_ => ?_); go_big_quiet_op; refine hK_ _ ?_; clear hK_ K_)
                    (refine tree_quiet (by simp only [List.getElem?_toArray, List.getElem?_cons_succ, List.getElem?_cons_zero]; rfl) (by rfl) (by rfl) (fun K_ hK_ => ?_); go_big_quiet_op; refine hK_ _ ?_; clear hK_ K_)
                    (refine tree_quiet (by simp only [List.getElem?_toArray, List.getElem?_cons_succ, List.getElem?_cons_zero]; rfl) (by rfl) (by rfl) (fun K_ hK_ => ?_); go_big_quiet_op; refine hK_ _ ?_; clear hK_ K_)
                    (refine tree_quiet (by simp only [List.getElem?_toArray, List.getElem?_cons_succ, List.getElem?_cons_zero]; rfl) (by rfl) (by rfl) (fun K_ hK_ => ?_); go_big_quiet_op; refine hK_ _ ?_; clear hK_ K_)
                    (refine tree_quiet (by simp only [List.getElem?_toArray, List.getElem?_cons_succ, List.getElem?_cons_zero]; rfl) (by rfl) (by rfl) (fun K_ hK_ => ?_); go_big_quiet_op; refine hK_ _ ?_; clear hK_ K_)
                    refine tree_nil ?_
                    clear hG_
                    go_wp2_with fail
                    go_roundw
                    case rel => exact ⟨q + 1, hltq, by go_num, bdrew1 HB.out⟩
                    case measure => simp [intOf]; omega
                  · obtain rfl : r1 = q := by omega
                    go_wp2_with fail
                    go_ret
                    exact ⟨rfl, bthen HB8.out hby⟩
          · have d1 : decide ((sn : Int) < 2) = false := by simp; omega
            have d1' : decide (sn < 2) = false := by simp; omega
            obtain ⟨i, hi⟩ : ∃ i, i = z % (sn - 1) := ⟨_, rfl⟩
            have hi2 : i + 1 < sn := by have := Nat.mod_lt z (show 0 < sn - 1 by omega); omega
            have hsub : (sn : Int) - 1 = ((sn - 1 : Nat) : Int) := by omega
            have hm1 : (z : Int) % ((sn : Int) - 1) = (i : Int) := by rw [hsub, hi]; simp
            have hm2 : (z : Int).tmod ((sn : Int) - 1) = (i : Int) := by rw [← hm1]; exact Int.tmod_eq_emod_of_nonneg (by omega)
            clear hi hsub
            go_wp2_with fail
            clear d1 hm1 hm2
            obtain ⟨x, hx⟩ : ∃ x, ms[i]? = some x := ⟨_, List.getElem?_eq_getElem (by rw [HML.out]; omega)⟩
            obtain ⟨y, hy⟩ : ∃ y, ms[i + 1]? = some y := ⟨_, List.getElem?_eq_getElem (by rw [HML.out]; omega)⟩
            have hwx := HMW.out x (List.mem_of_getElem? hx)
            have hwy := HMW.out y (List.mem_of_getElem? hy)
            obtain ⟨gm, ham, hgm1, hgm2, cx⟩ := set_at HOM.out hx (by omega)
            obtain ⟨gm', ham', _, _, cy⟩ := set_at HOM.out hy (by omega)
            subst ham
            injection ham' with ham'
            injection ham' with ham'
            subst ham'
            have HOV := Lib.hid (fun W (hW : Below w4.heap.size w4 W) => overR_any x y a4 n c4 gs ex W (HRF.out.below hW) hwx hwy)
            obtain ⟨c0, c1, f0, f1⟩ := cx
            obtain ⟨d0, d1', g0, g1⟩ := cy
            cases ho : overS ex x y with
            | true =>
              rw [ho] at HOV
              clear ho hx hy hwx hwy
              refine wp_region_tree (.step 0 (.step 1 (.step 2 (.step 3 (.step 4 (.step 5 (.step 6 (.step 7 (.step 8 (.step 9 (.step 10 (.step 11 .nil)))))))))))) (by kernel_rfl) (by kernel_rfl) (by kernel_rfl) (by kernel_rfl) (by intro _ _ d_ _ _ h_; cases d_ <;> first | exact h_ | (dsimp +zetaDelta only at h_ ⊢; exact h_)) (fun w' => ∃ p : Wld wv [], w' = p.val) (wld_start _ _) ?_
              have hG_ := @wldC wv
              (refine tree_quiet (by simp only [List.getElem?_toArray, List.getElem?_cons_succ, List.getElem?_cons_zero]; rfl) (by rfl) (by rfl) (fun K_ hK_ => ?_); go_big_quiet_op; refine hK_ _ ?_; clear hK_ K_)
              (refine tree_quiet (by simp only [List.getElem?_toArray, List.getElem?_cons_succ, List.getElem?_cons_zero]; rfl) (by rfl) (by rfl) (fun K_ hK_ => ?_); go_big_quiet_op; refine hK_ _ ?_; clear hK_ K_)
              (refine tree_quiet (by simp only [List.getElem?_toArray, List.getElem?_cons_succ, List.getElem?_cons_zero]; rfl) (by rfl) (by rfl) (fun K_ hK_ => ?_); go_big_quiet_op; refine hK_ _ ?_; clear hK_ K_)
              (refine tree_quiet (by simp only [List.getElem?_toArray, List.getElem?_cons_succ, List.getElem?_cons_zero]; rfl) (by rfl) (by rfl) (fun K_ hK_ => ?_); go_big_quiet_op; refine hK_ _ ?_; clear hK_ K_)
              (refine tree_quiet (by simp only [List.getElem?_toArray, List.getElem?_cons_succ, List.getElem?_cons_zero]; rfl) (by rfl) (by rfl) (fun K_ hK_ => ?_); go_big_quiet_op; refine hK_ _ ?_; clear hK_ K_)
              (refine tree_quiet (by simp only [List.getElem?_toArray, List.getElem?_cons_succ, List.getElem?_cons_zero]; rfl) (by rfl) (by rfl) (fun K_ hK_ => ?_); go_big_quiet_op; refine hK_ _ ?_; clear hK_ K_)
              (refine tree_quiet (by simp only [List.getElem?_toArray, List.getElem?_cons_succ, List.getElem?_cons_zero]; rfl) (by rfl) (by rfl) (fun K_ hK_ => ?_); go_big_quiet_op; refine hK_ _ ?_; clear hK_ K_)
              (refine tree_quiet (by simp only [List.getElem?_toArray, List.getElem?_cons_succ, List.getElem?_cons_zero]; rfl) (by rfl) (by rfl) (fun K_ hK_ => ?_); go_big_quiet_op; refine hK_ _ ?_; clear hK_ K_)
              (refine tree_quiet (by simp only [List.getElem?_toArray, List.getElem?_cons_succ, List.getElem?_cons_zero]; rfl) (by rfl) (by rfl) (fun K_ hK_ => ?_); go_big_quiet_op; refine hK_ _ ?_; clear hK_ K_)
              (refine tree_quiet (by simp only [List.getElem?_toArray, List.getElem?_cons_succ, List.getElem?_cons_zero]; rfl) (by rfl) (by rfl) (fun K_ hK_ => ?_); go_big_quiet_op; refine hK_ _ ?_; clear hK_ K_)
              (refine tree_run (by simp only [List.getElem?_toArray, List.getElem?_cons_succ, List.getElem?_cons_zero]; rfl) (by rfl) (by rfl) (fun K_ hK_ => ?_); have HK_ := Lib.hid hK_; clear hK_; go_wp2_with ((go_at_call 24; (with_reducible refine (HOV.out _ (by exact bdrew1 HBV.out)).mono ?_); rintro e w5 ⟨rfl, hb5⟩; have h5c := bc hb5; have h5f := bf hb5; have h5z := hb5.size; try simp only [World.size_alloc, World.size_drew] at h5z)); refine HK_.out _ _ (wld_ofA) ?_; clear HK_)
              (refine tree_quiet (by simp only [List.getElem?_toArray, List.getElem?_cons_succ, List.getElem?_cons_zero]; rfl) (by rfl) (by rfl) (fun K_ hK_ => ?_); go_big_quiet_op; refine hK_ _ ?_; clear hK_ K_)
              refine tree_nil ?_
              clear hG_
              go_wp2_with fail
              go_roundw
              case rel => exact ⟨j + 1, ms, hlt, by go_num, owns_below HOM.out (bthen (bdrew1 (brefl wv)) hb5) (Nat.le_refl _), HML.out, HMW.out, HMS.out, bthen (bdrew1 HBV.out) hb5⟩
              case measure => simp [intOf]; omega
            | false =>
              rw [ho] at HOV
              have HSW := Lib.hid (fun key => (swapL_last hx hy ho key).symm)
              have HWF := Lib.hid (swapL_wf (i := i) HMW.out hwx hwy)
              clear ho hx hy hwx hwy
              refine wp_region_tree (.step 0 (.step 1 (.step 2 (.step 3 (.step 4 (.step 5 (.step 6 (.step 7 (.step 8 (.step 9 (.step 10 (.step 11 .nil)))))))))))) (by kernel_rfl) (by kernel_rfl) (by kernel_rfl) (by kernel_rfl) (by intro _ _ d_ _ _ h_; cases d_ <;> first | exact h_ | (dsimp +zetaDelta only at h_ ⊢; exact h_)) (fun w' => ∃ p : Wld wv [], w' = p.val) (wld_start _ _) ?_
              have hG_ := @wldC wv
              (refine tree_quiet (by simp only [List.getElem?_toArray, List.getElem?_cons_succ, List.getElem?_cons_zero]; rfl) (by rfl) (by rfl) (fun K_ hK_ => ?_); go_big_quiet_op; refine hK_ _ ?_; clear hK_ K_)
              (refine tree_quiet (by simp only [List.getElem?_toArray, List.getElem?_cons_succ, List.getElem?_cons_zero]; rfl) (by rfl) (by rfl) (fun K_ hK_ => ?_); go_big_quiet_op; refine hK_ _ ?_; clear hK_ K_)
              (refine tree_quiet (by simp only [List.getElem?_toArray, List.getElem?_cons_succ, List.getElem?_cons_zero]; rfl) (by rfl) (by rfl) (fun K_ hK_ => ?_); go_big_quiet_op; refine hK_ _ ?_; clear hK_ K_)
              (refine tree_quiet (by simp only [List.getElem?_toArray, List.getElem?_cons_succ, List.getElem?_cons_zero]; rfl) (by rfl) (by rfl) (fun K_ hK_ => ?_); go_big_quiet_op; refine hK_ _ ?_; clear hK_ K_)
              (refine tree_quiet (by simp only [List.getElem?_toArray, List.getElem?_cons_succ, List.getElem?_cons_zero]; rfl) (by rfl) (by rfl) (fun K_ hK_ => ?_); go_big_quiet_op; refine hK_ _ ?_; clear hK_ K_)
              (refine tree_quiet (by simp only [List.getElem?_toArray, List.getElem?_cons_succ, List.getElem?_cons_zero]; rfl) (by rfl) (by rfl) (fun K_ hK_ => ?_); go_big_quiet_op; refine hK_ _ ?_; clear hK_ K_)
              (refine tree_quiet (by simp only [List.getElem?_toArray, List.getElem?_cons_succ, List.getElem?_cons_zero]; rfl) (by rfl) (by rfl) (fun K_ hK_ => ?_); go_big_quiet_op; refine hK_ _ ?_; clear hK_ K_)
              (refine tree_quiet (by simp only [List.getElem?_toArray, List.getElem?_cons_succ, List.getElem?_cons_zero]; rfl) (by rfl) (by rfl) (fun K_ hK_ => ?_); go_big_quiet_op; refine hK_ _ ?_; clear hK_ K_)
              (refine tree_quiet (by simp only [List.getElem?_toArray, List.getElem?_cons_succ, List.getElem?_cons_zero]; rfl) (by rfl) (by rfl) (fun K_ hK_ => ?_); go_big_quiet_op; refine hK_ _ ?_; clear hK_ K_)
              (refine tree_quiet (by simp only [List.getElem?_toArray, List.getElem?_cons_succ, List.getElem?_cons_zero]; rfl) (by rfl) (by rfl) (fun K_ hK_ => ?_); go_big_quiet_op; refine hK_ _ ?_; clear hK_ K_)
              (refine tree_run (by simp only [List.getElem?_toArray, List.getElem?_cons_succ, List.getElem?_cons_zero]; rfl) (by rfl) (by rfl) (fun K_ hK_ => ?_); have HK_ := Lib.hid hK_; clear hK_; go_wp2_with ((go_at_call 24; (with_reducible refine (HOV.out _ (by exact bdrew1 HBV.out)).mono ?_); rintro e w5 ⟨rfl, hb5⟩; have h5c := bc hb5; have h5f := bf hb5; have h5z := hb5.size; try simp only [World.size_alloc, World.size_drew] at h5z)); refine HK_.out _ _ (wld_ofA) ?_; clear HK_)
              (refine tree_quiet (by simp only [List.getElem?_toArray, List.getElem?_cons_succ, List.getElem?_cons_zero]; rfl) (by rfl) (by rfl) (fun K_ hK_ => ?_); go_big_quiet_op; refine hK_ _ ?_; clear hK_ K_)
              refine tree_nil ?_
              clear hG_
              go_wp2_with fail
              have hbw : Below wv.heap.size wv w5 := bthen (bdrew1 (brefl wv)) hb5
              have HO5 := Lib.hid (owns_below HOM.out hbw (Nat.le_refl _))
              have HB5 := Lib.hid (bthen HBV.out hbw)
              replace c0 := (hbw.cell (p := ⟨gm, i * 2, none⟩) hgm2).trans c0
              replace c1 := (hbw.cell (p := ⟨gm, i * 2 + 1, none⟩) hgm2).trans c1
              replace d0 := (hbw.cell (p := ⟨gm, (i + 1) * 2, none⟩) hgm2).trans d0
              replace d1' := (hbw.cell (p := ⟨gm, (i + 1) * 2 + 1, none⟩) hgm2).trans d1'
              replace f0 := (hbw.frozen (p := ⟨gm, i * 2, none⟩) hgm2).trans f0
              replace f1 := (hbw.frozen (p := ⟨gm, i * 2 + 1, none⟩) hgm2).trans f1
              replace g0 := (hbw.frozen (p := ⟨gm, (i + 1) * 2, none⟩) hgm2).trans g0
              replace g1 := (hbw.frozen (p := ⟨gm, (i + 1) * 2 + 1, none⟩) hgm2).trans g1
              have l5 : gm < w5.heap.size := Nat.lt_of_lt_of_le hgm2 hbw.size
              clear hbw hb5 h5c h5f h5z HOV HOM
              refine wp_region_late [2, 3, 4] [0, 1, 5, 6, 7, 8, 9, 10, 11, 12, 13, 14] 15 [16, 17] (by kernel_rfl) (by kernel_rfl) (by kernel_rfl) (by kernel_rfl) (by kernel_rfl) (by intro _ _ d_ _ _ h_; cases d_ <;> first | exact h_ | (dsimp +zetaDelta only at h_ ⊢; exact h_)) (fun w' => ∃ p : Wld w5 [], w' = p.val) (wld_start _ _) ?_
              (refine pre_step (by simp only [List.getElem?_toArray, List.getElem?_cons_succ, List.getElem?_cons_zero]; rfl) (by rfl) (by rfl) (fun K_ hK_ => ?_); go_big_quiet_op; refine hK_ _ ?_; clear hK_ K_)
              (refine pre_step (by simp only [List.getElem?_toArray, List.getElem?_cons_succ, List.getElem?_cons_zero]; rfl) (by rfl) (by rfl) (fun K_ hK_ => ?_); go_big_quiet_op; refine hK_ _ ?_; clear hK_ K_)
              (refine pre_step (by simp only [List.getElem?_toArray, List.getElem?_cons_succ, List.getElem?_cons_zero]; rfl) (by rfl) (by rfl) (fun K_ hK_ => ?_); go_big_quiet_op; refine hK_ _ ?_; clear hK_ K_)
              refine pre_nil ?_
              have hG_ := @wldC w5
              (refine qui_step (by simp only [List.getElem?_toArray, List.getElem?_cons_succ, List.getElem?_cons_zero]; rfl) (by rfl) (by rfl) (fun K_ hK_ => ?_); go_big_quiet_op; refine hK_ _ ?_; clear hK_ K_)
              (refine qui_step (by simp only [List.getElem?_toArray, List.getElem?_cons_succ, List.getElem?_cons_zero]; rfl) (by rfl) (by rfl) (fun K_ hK_ => ?_); go_big_quiet_op; refine hK_ _ ?_; clear hK_ K_)
              (refine qui_step (by simp only [List.getElem?_toArray, List.getElem?_cons_succ, List.getElem?_cons_zero]; rfl) (by rfl) (by rfl) (fun K_ hK_ => ?_); go_big_quiet_op; refine hK_ _ ?_; clear hK_ K_)
              (refine qui_step (by simp only [List.getElem?_toArray, List.getElem?_cons_succ, List.getElem?_cons_zero]; rfl) (by rfl) (by rfl) (fun K_ hK_ => ?_); go_big_quiet_op; refine hK_ _ ?_; clear hK_ K_)
              (refine qui_step (by simp only [List.getElem?_toArray, List.getElem?_cons_succ, List.getElem?_cons_zero]; rfl) (by rfl) (by rfl) (fun K_ hK_ => ?_); go_big_quiet_op; refine hK_ _ ?_; clear hK_ K_)
              (refine qui_step (by simp only [List.getElem?_toArray, List.getElem?_cons_succ, List.getElem?_cons_zero]; rfl) (by rfl) (by rfl) (fun K_ hK_ => ?_); go_big_quiet_op; refine hK_ _ ?_; clear hK_ K_)
              (refine qui_step (by simp only [List.getElem?_toArray, List.getElem?_cons_succ, List.getElem?_cons_zero]; rfl) (by rfl) (by rfl) (fun K_ hK_ => ?_); go_big_quiet_op; refine hK_ _ ?_; clear hK_ K_)
              (refine qui_step (by simp only [List.getElem?_toArray, List.getElem?_cons_succ, List.getElem?_cons_zero]; rfl) (by rfl) (by rfl) (fun K_ hK_ => ?_); go_big_quiet_op; refine hK_ _ ?_; clear hK_ K_)
              (refine qui_step (by simp only [List.getElem?_toArray, List.getElem?_cons_succ, List.getElem?_cons_zero]; rfl) (by rfl) (by rfl) (fun K_ hK_ => ?_); go_big_quiet_op; refine hK_ _ ?_; clear hK_ K_)
              (refine qui_step (by simp only [List.getElem?_toArray, List.getElem?_cons_succ, List.getElem?_cons_zero]; rfl) (by rfl) (by rfl) (fun K_ hK_ => ?_); go_big_quiet_op; refine hK_ _ ?_; clear hK_ K_)
              (refine qui_step (by simp only [List.getElem?_toArray, List.getElem?_cons_succ, List.getElem?_cons_zero]; rfl) (by rfl) (by rfl) (fun K_ hK_ => ?_); go_big_quiet_op; refine hK_ _ ?_; clear hK_ K_)
              (refine qui_step (by simp only [List.getElem?_toArray, List.getElem?_cons_succ, List.getElem?_cons_zero]; rfl) (by rfl) (by rfl) (fun K_ hK_ => ?_); go_big_quiet_op; refine hK_ _ ?_; clear hK_ K_)
              refine qui_nil ?_
              clear hG_
              (refine tail_run (by simp only [List.getElem?_toArray, List.getElem?_cons_succ, List.getElem?_cons_zero]; rfl) (by rfl) (fun K_ hK_ => ?_); have HK_ := Lib.hid hK_; clear hK_; go_wp2_with fail; refine HK_.out _ _ ?_; clear HK_)
              (refine tail_run (by simp only [List.getElem?_toArray, List.getElem?_cons_succ, List.getElem?_cons_zero]; rfl) (by rfl) (fun K_ hK_ => ?_); have HK_ := Lib.hid hK_; clear hK_; go_wp2_with fail; refine HK_.out _ _ ?_; clear HK_)
              (refine tail_run (by simp only [List.getElem?_toArray, List.getElem?_cons_succ, List.getElem?_cons_zero]; rfl) (by rfl) (fun K_ hK_ => ?_); have HK_ := Lib.hid hK_; clear hK_; go_wp2_with fail; refine HK_.out _ _ ?_; clear HK_)
              refine tail_nil ?_
              go_wp2_with fail
              go_roundw
              case rel => exact ⟨j + 1, swapL ms i x y, hlt, by go_num, own_put2 (own_put2 HO5.out i (by omega) y) (i + 1) (by omega) x, by rw [swapL_length]; exact HML.out, HWF.out, fun key => (HMS.out key).trans (HSW.out key), (bset (bset (bset (bset HB5.out (p := ⟨gm, _, none⟩) hgm1 _) (p := ⟨gm, _, none⟩) hgm1 _) (p := ⟨gm, _, none⟩) hgm1 _) (p := ⟨gm, _, none⟩) hgm1 _).drew⟩
              case measure => simp [intOf]; omega
        · obtain rfl : kn = j := by omega
          go_wp2_with fail
          have HSM := Lib.hid (show SetOk wv a6 sn c6 ms from ⟨has_of_owns HOM.out, HML.out, by omega, HMW.out⟩)
          have HFV := Lib.hid (HFE.out.below HBV.out)
          have HSV := Lib.hid (HS4.out.below HBV.out)
          refine (settle_any sa sn sc l (some ⟨g, 0, none⟩) n n fs wv HSV.out HFV.out).mono ?_
          rintro e w7 ⟨b1, r1, e1, on, rfl, hs7, hset7, _, _, _, _, hb7⟩
          have HS7 := Lib.hid hs7
          have HB7 := Lib.hid hb7
          rw [HEX.out] at hset7
          have HSET := Lib.hid hset7
          clear hs7 hb7 hset7
          go_wp2_with fail
          refine (settle_any a6 sn c6 ms (some ⟨g, 0, none⟩) n n fs w7 (HSM.out.below HB7.out) (HFV.out.below HB7.out)).mono ?_
          rintro e w8 ⟨b2, r2, e2, on2, rfl, hs8, hset8, _, _, _, _, hb8⟩
          rw [HEX.out] at hset8
          obtain rfl := (HSET.out.same hset8 HMS.out).symm
          obtain rfl : r1 = r2 := HS7.out.len.symm.trans hs8.len
          have HS8 := Lib.hid hs8
          have HS7' := Lib.hid (HS7.out.below hb8)
          have HS9 := Lib.hid ((HSV.out.below HB7.out).below hb8)
          have HB8 := Lib.hid (bthen (bthen (bthen HB4.out HBV.out) HB7.out) hb8)
          have hr1 := hs8.small
          clear hs8 hset8 hb8 HS7 HSM HFV HSV HB7 HOM HML HMW HMS HBV HS4 HFE HRF HK4 HEX HO6 HB6 HSA
          go_wp2_with fail
          go_loopw [21, 134] (fun u i wr => ∃ (k : Nat) (ar : Option Addr) (cr : Nat) (rv : List RuleV), k ≤ sn ∧ i = .int .i64 (k : Nat) ∧ u = .slice ar k cr ∧ wr.ownsRow w8.heap.size 58 4 (.slice ar k cr) k (ruV rv) ∧ rv.length = k ∧ (∀ r ∈ rv, wfS r.s) ∧ Below w8.heap.size w8 wr) (fun _ i _ => sn - (intOf i).toNat)
          case atStart => exact ⟨0, none, 0, [], Nat.zero_le _, rfl, rfl, ⟨rfl, .inl ⟨rfl, rfl⟩⟩, rfl, fun r hr => (by cases hr), Below.refl _ _⟩
          case round =>
            rename World => wx
            obtain ⟨k, ar, cr, rv, hk, rfl, rfl, hown, hrl, hrw, hbx⟩ := hrel
            have HO := Lib.hid hown
            have HRL := Lib.hid hrl
            have HRW := Lib.hid hrw
            have HBX := Lib.hid hbx
            have hzx := hbx.size
            clear hown hrl hrw hbx
            by_cases hltk : k < sn
            · obtain ⟨x, hx⟩ : ∃ x, l[k]? = some x := ⟨_, List.getElem?_eq_getElem (by rw [HS9.out.len]; exact hltk)⟩
              have hwx := HS9.out.wf x (List.mem_of_getElem? hx)
              obtain ⟨b, o, ha, hbl, c0, c1⟩ := set_cells (HS9.out.has.below HBX.out) hx
              subst ha
              go_wp2_with fail
              obtain ⟨U, hU⟩ : ∃ U, U = wx.alloc (Obj.cells #[.int .i64 x.1, .int .i64 x.2] 44) := ⟨_, rfl⟩
              have HXU := Lib.hid (show Below wx.heap.size wx U from by rw [hU]; exact balloc (brefl _) _)
              have h23 : U.heap[wx.heap.size]? = some (.cells #[.int .i64 x.1, .int .i64 x.2] 44 (0, 0)) := by rw [hU, heap_push, if_pos rfl]
              rw [← hU]
              have hzU := HXU.out.size
              generalize hg23 : wx.heap.size = g23 at *
              have q23 := fun o => cell_of_heap h23 o
              have l23 := (Array.getElem?_eq_some_iff.1 h23).1
              have HWX := Lib.hid hwx
              have HG23 := Lib.hid hg23
              clear hU c0 c1 hbl hx hwx hg23
              refine wp_region_tree (.step 0 (.step 1 (.step 2 (.step 3 (.step 4 (.step 5 (.step 6 (.step 7 (.step 8 (.step 9 (.step 10 (.step 11 .nil)))))))))))) (by kernel_rfl) (by kernel_rfl) (by kernel_rfl) (by kernel_rfl) (by intro _ _ d_ _ _ h_; cases d_ <;> first | exact h_ | (dsimp +zetaDelta only at h_ ⊢; exact h_)) (fun w' => ∃ p : KepE 58 U, w' = p.val) (kepE_start _ _) ?_
              have hK0_ := fun (p : KepE 58 U) (o : Nat) => p.is.cell h23 (by decide) o
              (refine tree_quiet (by simp only [List.getElem?_toArray, List.getElem?_cons_succ, List.getElem?_cons_zero]; rfl) (by rfl) (by rfl) (fun K_ hK_ => ?_); go_big_quiet_op; refine hK_ _ ?_; clear hK_ K_)
              (refine tree_quiet (by simp only [List.getElem?_toArray, List.getElem?_cons_succ, List.getElem?_cons_zero]; rfl) (by rfl) (by rfl) (fun K_ hK_ => ?_); go_big_quiet_op; refine hK_ _ ?_; clear hK_ K_)
              (refine tree_quiet (by simp only [List.getElem?_toArray, List.getElem?_cons_succ, List.getElem?_cons_zero]; rfl) (by rfl) (by rfl) (fun K_ hK_ => ?_); go_big_quiet_op; refine hK_ _ ?_; clear hK_ K_)
              (refine tree_quiet (by simp only [List.getElem?_toArray, List.getElem?_cons_succ, List.getElem?_cons_zero]; rfl) (by rfl) (by rfl) (fun K_ hK_ => ?_); go_big_quiet_op; refine hK_ _ ?_; clear hK_ K_)
              (refine tree_quiet (by simp only [List.getElem?_toArray, List.getElem?_cons_succ, List.getElem?_cons_zero]; rfl) (by rfl) (by rfl) (fun K_ hK_ => ?_); go_big_quiet_op; refine hK_ _ ?_; clear hK_ K_)
              (refine tree_quiet (by simp only [List.getElem?_toArray, List.getElem?_cons_succ, List.getElem?_cons_zero]; rfl) (by rfl) (by rfl) (fun K_ hK_ => ?_); go_big_quiet_op; refine hK_ _ ?_; clear hK_ K_)
              (refine tree_quiet (by simp only [List.getElem?_toArray, List.getElem?_cons_succ, List.getElem?_cons_zero]; rfl) (by rfl) (by rfl) (fun K_ hK_ => ?_); go_big_quiet_op; refine hK_ _ ?_; clear hK_ K_)
              (refine tree_quiet (by simp only [List.getElem?_toArray, List.getElem?_cons_succ, List.getElem?_cons_zero]; rfl) (by rfl) (by rfl) (fun K_ hK_ => ?_); go_big_quiet_op; refine hK_ _ ?_; clear hK_ K_)
              (refine tree_quiet (by simp only [List.getElem?_toArray, List.getElem?_cons_succ, List.getElem?_cons_zero]; rfl) (by rfl) (by rfl) (fun K_ hK_ => ?_); go_big_quiet_op; refine hK_ _ ?_; clear hK_ K_)
              (refine tree_run (by simp only [List.getElem?_toArray, List.getElem?_cons_succ, List.getElem?_cons_zero]; rfl) (by rfl) (by rfl) (fun K_ hK_ => ?_); have HK_ := Lib.hid hK_; clear hK_; (first | ((refine wpAppO _ _ 55 rfl w8.heap.size 58 (.agg #[.int .i64 0, .int .i64 0, .int .u32 0, .int .u32 0]) 4 24 Try.underlying55 ruP_info rfl (by decide) _ k (ruV rv) rfl (owns_below HO.out (balloc (bdrew1 (show Below wx.heap.size wx U from by rw [HG23.out]; exact HXU.out)) _) (Nat.le_refl _)) ⟨U.heap.size, 0, none⟩ 1 1 (ruV [⟨(x.1, x.2), _, 4294967295⟩]) rfl rfl (has_alloc _ _ _) (fun u hu => by simp [ruV, RuleV.enc] at hu; rcases hu with rfl | rfl | rfl | rfl <;> rfl) (by unfold maxLen; omega) (by omega) (by simp; omega) ?_; intro a9 c9 w9 hown9 k91 k92 k93 hb9 hg9; have hkw : KeptE 58 U w9 := ((KeptE.below (bdrew1 (brefl U))).trans (KeptE.below (balloc (brefl _) _))).trans (KeptE.grown (owns_below HO.out (balloc (bdrew1 (show Below wx.heap.size wx U from by rw [HG23.out]; exact HXU.out)) _) (Nat.le_refl _)) hg9); rw [← ruV_app] at hown9; have HO9 := Lib.hid hown9; have HB9 := Lib.hid (((((HBX.out.trans ((show Below wx.heap.size wx U from by rw [HG23.out]; exact HXU.out).mono (by rw [HG23.out]; exact hzx))).drew).alloc (by simp; omega) _)).trans hb9); clear hown9 k91 k92 k93 hb9 hg9; (try dsimp only [Act.put]); (try simp only [List.setIfInBounds_toArray, List.set_cons_succ, List.set_cons_zero]))) | (go_wp2_with (fail))); refine HK_.out _ _ (kepE_of (by repeat (first | exact KeptE.refl _ _ | assumption | refine KeptE.trans ?_ (KeptE.below (bdrew1 (brefl _))) | refine KeptE.trans ?_ (KeptE.below (balloc (brefl _) _)) | refine KeptE.trans ?_ (KeptE.below (by assumption)) | refine KeptE.trans ?_ (by assumption)))) ?_; clear HK_)
              (refine tree_run (by simp only [List.getElem?_toArray, List.getElem?_cons_succ, List.getElem?_cons_zero]; rfl) (by rfl) (by rfl) (fun K_ hK_ => ?_); have HK_ := Lib.hid hK_; clear hK_; (first | ((refine wpAppO _ _ 55 rfl w8.heap.size 58 (.agg #[.int .i64 0, .int .i64 0, .int .u32 0, .int .u32 0]) 4 24 Try.underlying55 ruP_info rfl (by decide) _ k (ruV rv) rfl (owns_below HO.out (balloc (bdrew1 (show Below wx.heap.size wx U from by rw [HG23.out]; exact HXU.out)) _) (Nat.le_refl _)) ⟨U.heap.size, 0, none⟩ 1 1 (ruV [⟨(x.1, x.2), _, 4294967295⟩]) rfl rfl (has_alloc _ _ _) (fun u hu => by simp [ruV, RuleV.enc] at hu; rcases hu with rfl | rfl | rfl | rfl <;> rfl) (by unfold maxLen; omega) (by omega) (by simp; omega) ?_; intro a9 c9 w9 hown9 k91 k92 k93 hb9 hg9; have hkw : KeptE 58 U w9 := ((KeptE.below (bdrew1 (brefl U))).trans (KeptE.below (balloc (brefl _) _))).trans (KeptE.grown (owns_below HO.out (balloc (bdrew1 (show Below wx.heap.size wx U from by rw [HG23.out]; exact HXU.out)) _) (Nat.le_refl _)) hg9); rw [← ruV_app] at hown9; have HO9 := Lib.hid hown9; have HB9 := Lib.hid (((((HBX.out.trans ((show Below wx.heap.size wx U from by rw [HG23.out]; exact HXU.out).mono (by rw [HG23.out]; exact hzx))).drew).alloc (by simp; omega) _)).trans hb9); clear hown9 k91 k92 k93 hb9 hg9; (try dsimp only [Act.put]); (try simp only [List.setIfInBounds_toArray, List.set_cons_succ, List.set_cons_zero]))) | (go_wp2_with (fail))); refine HK_.out _ _ (kepE_of (by repeat (first | exact KeptE.refl _ _ | assumption | refine KeptE.trans ?_ (KeptE.below (bdrew1 (brefl _))) | refine KeptE.trans ?_ (KeptE.below (balloc (brefl _) _)) | refine KeptE.trans ?_ (KeptE.below (by assumption)) | refine KeptE.trans ?_ (by assumption)))) ?_; clear HK_)
              (refine tree_quiet (by simp only [List.getElem?_toArray, List.getElem?_cons_succ, List.getElem?_cons_zero]; rfl) (by rfl) (by rfl) (fun K_ hK_ => ?_); go_big_quiet_op; refine hK_ _ ?_; clear hK_ K_)
              refine tree_nil ?_
              clear hK0_
              go_wp2_with fail
              go_roundw
              case rel => exact ⟨k + 1, a9, c9, rv ++ [⟨(x.1, x.2), _, 4294967295⟩], hltk, by go_num, rfl, HO9.out, by rw [List.length_append, HRL.out]; rfl, fun r hr => by
                rcases List.mem_append.1 hr with hr | hr
                · exact HRW.out r hr
                · simp only [List.mem_singleton] at hr
                  subst hr
                  exact HWX.out, HB9.out⟩
              case measure => simp [intOf]; omega
            · obtain rfl : sn = k := by omega
              have HRK := Lib.hid (show RuOk wx ar sn cr rv from ⟨has_of_owns HO.out, HRL.out, by omega, HRW.out⟩)
              have HF1 := Lib.hid (fun W (hW : Below wx.heap.size wx W) => flags_any 0 ar sn cr rv b1 r1 e1 on ex l W (HRK.out.below hW) ((HS7'.out.below HBX.out).below hW) HSET.out)
              have HF2 := Lib.hid (fun W (hW : Below wx.heap.size wx W) => flags_any 0 ar sn cr rv b2 r1 e2 on ex l W (HRK.out.below hW) ((HS8.out.below HBX.out).below hW) HSET.out)
              generalize flagsF (onS ex l) 0 rv = FL at *
              have hff : (FL != FL) = false := by simp
              clear HRK HO HRL HRW
              go_wp2_with (first | (go_at_call 22; (with_reducible refine (HF1.out _ (by exact blw)).mono ?_); rintro e w5 ⟨rfl, hb5⟩; have h5c := bc hb5; have h5f := bf hb5; have h5z := hb5.size; try simp only [World.size_alloc, World.size_drew] at h5z) | (go_at_call 22; (with_reducible refine (HF2.out _ (by exact blw)).mono ?_); rintro e w6 ⟨rfl, hb6⟩; have h6c := bc hb6; have h6f := bf hb6; have h6z := hb6.size; try simp only [World.size_alloc, World.size_drew] at h6z))
              have HB6 := Lib.hid (bthen (bthen HBX.out hb5) hb6)
              have HNE := fun (x : St) (hx : wfS x) w => neS x x hx hx w
              clear hb5 h5c h5f h5z hb6 h6c h6f h6z hff HF1 HF2
              go_loopw [167] (fun i wy => ∃ j : Nat, j ≤ r1 ∧ i = .int .i64 (j : Nat) ∧ Below w8.heap.size w8 wy) (fun i _ => r1 - (intOf i).toNat)
              case atStart => exact ⟨0, Nat.zero_le _, rfl, HB6.out⟩
              case round =>
                rename World => wy
                obtain ⟨q, hq, rfl, hby⟩ := hrel
                by_cases hltq : q < r1
                · obtain ⟨x, hx⟩ : ∃ x, on[q]? = some x := ⟨_, List.getElem?_eq_getElem (by rw [HS8.out.len]; exact hltq)⟩
                  have hne := HNE x (HS8.out.wf x (List.mem_of_getElem? hx))
                  rw [show (x == x) = true from by simp] at hne
                  obtain ⟨b, o, ha, hbl, c0, c1⟩ := set_cells (HS7'.out.has.below hby) hx
                  obtain ⟨b', o', ha', hbl', d0, d1⟩ := set_cells (HS8.out.has.below hby) hx
                  subst ha ha'
                  have HB := Lib.hid hby
                  simp only [Bool.not_true] at hne
                  clear hx HNE hby
                  go_wp2_with fail
                  refine wp_region_tree (.step 0 (.step 1 (.step 2 (.step 3 (.step 4 (.step 5 (.step 6 (.step 7 (.step 8 .nil))))))))) (by kernel_rfl) (by kernel_rfl) (by kernel_rfl) (by kernel_rfl) (by intro _ _ d_ _ _ h_; cases d_ <;> first | exact h_ | (dsimp +zetaDelta only at h_ ⊢; exact h_)) (fun w' => ∃ p : Wld wy [], w' = p.val) (wld_start _ _) ?_
                  have hG_ := @wldC wy
                  (refine tree_quiet (by simp only [List.getElem?_toArray, List.getElem?_cons_succ, List.getElem?_cons_zero]; rfl) (by rfl) (by rfl) (fun K_ hK_ => ?_); go_big_quiet_op; refine hK_ _ ?_; clear hK_ K_)
                  (refine tree_quiet (by simp only [List.getElem?_toArray, List.getElem?_cons_succ, List.getElem?_cons_zero]; rfl) (by rfl) (by rfl) (fun K_ hK_ => ?_); go_big_quiet_op; refine hK_ _ ?_; clear hK_ K_)
                  (refine tree_quiet (by simp only [List.getElem?_toArray, List.getElem?_cons_succ, List.getElem?_cons_zero]; rfl) (by rfl) (by rfl) (fun K_ hK_ => ?_); go_big_quiet_op; refine hK_ _ ?_; clear hK_ K_)
                  (refine tree_quiet (by simp only [List.getElem?_toArray, List.getElem?_cons_succ, List.getElem?_cons_zero]; rfl) (by rfl) (by rfl) (fun K_ hK_ => ?_); go_big_quiet_op; refine hK_ _ ?_; clear hK_ K_)
                  (refine tree_quiet (by simp only [List.getElem?_toArray, List.getElem?_cons_succ, List.getElem?_cons_zero]; rfl) (by rfl) (by rfl) (fun K_ hK_ => ?_); go_big_quiet_op; refine hK_ _ ?_; clear hK_ K_)
                  (refine tree_quiet (by simp only [List.getElem?_toArray, List.getElem?_cons_succ, List.getElem?_cons_zero]; rfl) (by rfl) (by rfl) (fun K_ hK_ => ?_); go_big_quiet_op; refine hK_ _ ?_; clear hK_ K_)
                  (refine tree_quiet (by simp only [List.getElem?_toArray, List.getElem?_cons_succ, List.getElem?_cons_zero]; rfl) (by rfl) (by rfl) (fun K_ hK_ => ?_); go_big_quiet_op; refine hK_ _ ?_; clear hK_ K_)
                  (refine tree_quiet (by simp only [List.getElem?_toArray, List.getElem?_cons_succ, List.getElem?_cons_zero]; rfl) (by rfl) (by rfl) (fun K_ hK_ => ?_); go_big_quiet_op; refine hK_ _ ?_; clear hK_ K_)
                  (refine tree_quiet (by simp only [List.getElem?_toArray, List.getElem?_cons_succ, List.getElem?_cons_zero]; rfl) (by rfl) (by rfl) (fun K_ hK_ => ?_); go_big_quiet_op; refine hK_ _ ?_; clear hK_ K_)
                  refine tree_nil ?_
                  clear hG_
                  go_wp2_with fail
                  go_roundw
                  case rel => exact ⟨q + 1, hltq, by go_num, bdrew1 HB.out⟩
                  case measure => simp [intOf]; omega
                · obtain rfl : r1 = q := by omega
                  go_wp2_with fail
                  go_ret
                  exact ⟨rfl, bthen HB8.out hby⟩

open Go.ChangeShapes Go.WideShapes Go.ChangeAt Go.RowKit
open Go.ChangeMaps (open_string shut_string)

set_option maxRecDepth 100000 in
theorem wholeChoices_walks (H : Type) (enc : TypeId × Value → H) : Walks H enc 10 [22, 39, 32] := by
  intro W base args ds p hval hA _
  obtain ⟨v0, vs0, d0, ds0, p0, q0, hargs, rfl, rfl, h0, r0⟩ := trodAll_cons hA
  obtain ⟨v1, vs1, d1, ds1, p1, q1, rfl, rfl, rfl, h1, r1⟩ := trodAll_cons r0
  obtain ⟨v2, vs2, d2, ds2, p2, q2, rfl, rfl, rfl, h2, r2⟩ := trodAll_cons r1
  obtain ⟨rfl, rfl, rfl⟩ := trodAll_nil r2
  obtain rfl : args = #[v0, v1, v2] := by cases args; simp_all
  obtain ⟨la, n, lc, ps, rfl, g1, g2, g3, g4, g5⟩ := open_plans8 (hval 0 22 v0 rfl rfl) h0
  obtain ⟨sa, sn, sc, l, rfl, s1, s2, s3, s4, s5, s6⟩ := open_sets (hval 1 39 v1 rfl rfl) h1
  obtain ⟨ka, kn, kc, ks, rfl, k1, k2, k3, k4⟩ := open_bytes Try.underlying32 Try.underlying5 (by kernel_rfl) (hval 2 32 v2 rfl rfl) h2
  exact wholeChoices_walk la n lc ps sa sn sc l ka kn kc ks W g1 g2 g5 (by omega) s5 s1 s6 (by omega) s4 k1 k2 (by omega)

set_option maxRecDepth 100000 in
theorem wholeChoices_lifted (os : Os) (started : os.Started) (H : Type) (enc : TypeId × Value → H) :
    ReturnsInHanded {} Try.checked os 10 .any (Rows.wholeChoicesSpec.pre6 enc Try.prog Try.f10 Rows.wholeChoicesRow.domain false) (Rows.wholeChoicesSpec.post enc Try.prog Try.f10 false true false false) :=
  lift_law (s := Rows.wholeChoicesSpec) (fn := Try.f10) started (by kernel_rfl) Try.func10
    (ChangeSpec.witness6 (enc := enc) (C := Try.checked) false ⟨#[], #[.slice none 0 0, .slice none 0 0, .slice none 0 0], []⟩ 8 (by kernel_rfl) (by kernel_rfl) (by kernel_rfl) (by kernel_rfl))
    rfl rfl (fun ds h => by match ds, h with | [d0, d1, d2], _ => rfl) (by intro t ht; simp [Try.params10] at ht; first | (subst ht; exact ⟨by kernel_rfl, of_decide_eq_true (by kernel_rfl)⟩) | (obtain rfl | rfl := ht <;> exact ⟨by kernel_rfl, of_decide_eq_true (by kernel_rfl)⟩) | (obtain rfl | rfl | rfl := ht <;> exact ⟨by kernel_rfl, of_decide_eq_true (by kernel_rfl)⟩) | (obtain rfl | rfl | rfl | rfl := ht <;> exact ⟨by kernel_rfl, of_decide_eq_true (by kernel_rfl)⟩))
    (by rw [Try.params10]; exact wholeChoices_walks H enc)
theorem wholeChoices_over : Rows.wholeChoicesRow.holds Try.pinned (OpenSpec.ofChange Rows.wholeChoicesSpec) :=
  OpenClaim.holds_of_wide 10 Try.f10 rfl rfl rfl rfl rfl rfl rfl ⟨rfl, rfl, rfl, rfl, rfl⟩ rfl rfl rfl rfl rfl (by kernel_rfl) Try.func10 (by kernel_rfl)
    (of_decide_eq_true (by kernel_rfl)) (by unfold Func.isWrapper; first | (rw [if_pos (by decide +kernel)]; kernel_rfl) | (rw [if_neg (by decide +kernel)]; exact ⟨rfl, rfl⟩))
    (fun os started H enc _ => wholeChoices_lifted os started H enc)
theorem wholeChoices_proved : Rows.WholeChoicesSaid := wholeChoices_over
#print axioms wholeChoices_proved
end Go.Proofs.Ytfnghinefbmlmaa
