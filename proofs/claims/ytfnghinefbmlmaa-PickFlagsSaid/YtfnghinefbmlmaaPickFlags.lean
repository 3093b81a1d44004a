
/- A chain's flags, by any rules, are the document's, for every case. No condition but those of the statement. -/
import Derived.Test.YtfnghinefbmlmaaPickN
namespace Go.Proofs.Ytfnghinefbmlmaa
open Go.RowKit Go.Lib

theorem ruR_info : (Try.prog.info? 59).map (fun i => (i.zero, i.size, i.bytes)) = some (some (.agg #[.int .i64 0, .int .i64 0, .int .u32 0, .int .u32 0]), 4, 24) := by kernel_rfl
theorem ruV_app (a b : List RuleV) : ruV (a ++ b) = ruV a ++ ruV b := by simp [ruV]
set_option maxRecDepth 100000 in
set_option maxHeartbeats 4000000 in
theorem pickFlags_walk (a : Option Addr) (n c : Nat) (l : List St) (ka : Option Addr) (kn kc : Nat) (ks : List UInt8) (xa : Option Addr) (xn xc : Nat) (xs : List Bool) (first : Int) (ra : Option Addr) (rn rc : Nat) (rs : List RuleV) (w : World) (h : CaseOk w a n c l ka kn kc ks xa xn xc xs) (hr : Has w ra (ruV rs)) (hrl : rs.length = rn) (hrc : rn ≤ maxLen) (hrw : ∀ r ∈ rs, wfS r.s) :
    Calls Try.prog 6 #[caseV a n c ka kn kc xa xn xc, .int .u32 first, .slice ra rn rc] w fun e w' => e = .returned (.bool true) ∧ Below w.heap.size w w' := by
  have hAC := allocC
  have hAF := allocF
  have HSP := Lib.hid (fun W => speaks9_any W)
  have HC := Lib.hid h
  have HRU := Lib.hid hr
  have HRL := Lib.hid hrl
  have HRW := Lib.hid hrw
  clear h hr hrl hrw
  unfold maxLen at hrc
  have HBG := Lib.hid (fun b W hb => big_any a n c ka kn kc xa xn xc b W hb)
  by_cases hbig : 100 < n ∨ 40 < kn
  · have HB1 := Lib.hid (show (decide (100 < (n : Int)) || decide (40 < (kn : Int))) = true by rcases hbig with g | g <;> simp <;> omega)
    clear hbig
    go_enter Try.func6, Try.ntmps6
    go_wp2_with (first | (go_at_call 14; (with_reducible refine (HSP.out _).mono ?_); rintro e w1 ⟨rfl, hb1⟩; have h1c := bc hb1; have h1f := bf hb1; have h1z := hb1.size; try simp only [World.size_alloc, World.size_drew] at h1z) | (go_at_call 15; (with_reducible refine (HBG.out true _ HB1.out).mono ?_); rintro e w2 ⟨rfl, hb2⟩; have h2c := bc hb2; have h2f := bf hb2; have h2z := hb2.size; try simp only [World.size_alloc, World.size_drew] at h2z))
    go_ret
    exact ⟨rfl, blw⟩
  have HB1 := Lib.hid (show (decide (100 < (n : Int)) || decide (40 < (kn : Int))) = false by simp; omega)
  have hn1 : n ≤ 100 := by omega
  have hn2 : kn ≤ 40 := by omega
  clear hbig
  by_cases hrn : 100 < rn
  · have d1 : decide (100 < (rn : Int)) = true := by simp; omega
    go_enter Try.func6, Try.ntmps6
    go_wp2_with (first | (go_at_call 14; (with_reducible refine (HSP.out _).mono ?_); rintro e w1 ⟨rfl, hb1⟩; have h1c := bc hb1; have h1f := bf hb1; have h1z := hb1.size; try simp only [World.size_alloc, World.size_drew] at h1z) | (go_at_call 15; (with_reducible refine (HBG.out false _ HB1.out).mono ?_); rintro e w2 ⟨rfl, hb2⟩; have h2c := bc hb2; have h2f := bf hb2; have h2z := hb2.size; try simp only [World.size_alloc, World.size_drew] at h2z))
    go_ret
    exact ⟨rfl, blw⟩
  have d1 : decide (100 < (rn : Int)) = false := by simp; omega
  go_enter Try.func6, Try.ntmps6
  go_wp2_with (first | (go_at_call 14; (with_reducible refine (HSP.out _).mono ?_); rintro e w1 ⟨rfl, hb1⟩; have h1c := bc hb1; have h1f := bf hb1; have h1z := hb1.size; try simp only [World.size_alloc, World.size_drew] at h1z) | (go_at_call 15; (with_reducible refine (HBG.out false _ HB1.out).mono ?_); rintro e w2 ⟨rfl, hb2⟩; have h2c := bc hb2; have h2f := bf hb2; have h2z := hb2.size; try simp only [World.size_alloc, World.size_drew] at h2z) | (go_at_call 16; (with_reducible refine (features_any ka kn kc ks xa xn xc xs _ (HC.out.khas.below (by exact blw)) HC.out.klen hn2 (HC.out.xhas.below (by exact blw)) HC.out.xlen HC.out.xcap).mono ?_); rintro e w3 ⟨a1, m1, c1, a2, c2, fs, rfl, htwo, hm1, hb3⟩; have HT3 := Lib.hid htwo; have h3c := bc hb3; have h3f := bf hb3; have h3z := hb3.size; (try simp only [World.size_alloc, World.size_drew] at h3z); clear htwo))
  obtain ⟨V, hV⟩ : ∃ V, V = w.alloc (Obj.cells #[.slice a n c, .slice ka kn kc, .slice xa xn xc] 42) := ⟨_, rfl⟩
  have hbV : Below V.heap.size V w3 := by rw [hV]; exact bthen (bthen hb1 hb2) hb3
  have hbw : Below w.heap.size w w3 := bthen (show Below w.heap.size w V from by rw [hV]; exact balloc (brefl w) _) hbV
  have e2 : V.heap[w.heap.size]? = some (.cells #[.slice a n c, .slice ka kn kc, .slice xa xn xc] 42 (0, 0)) := by rw [hV, heap_push, if_pos rfl]
  have H2 := Lib.hid ((hbV.block _ (Array.getElem?_eq_some_iff.1 e2).1).trans e2)
  have HBW := Lib.hid hbw
  have HCW := Lib.hid (show SetOk w3 a n c l from ⟨HC.out.has.below hbw, HC.out.len, by omega, HC.out.wf⟩)
  have HRU3 := Lib.hid (show RuOk w3 ra rn rc rs from ⟨HRU.out.below hbw, HRL.out, by omega, HRW.out⟩)
  have HRF := Lib.hid (HT3.out.rf (by omega))
  have HFE := Lib.hid (HT3.out.fe (by omega))
  clear hV hbV hbw e2 hb1 hb2 hb3 h1c h1f h1z h2c h2f h2z h3c h3f h3z HT3 HBG HSP HB1 HC HRU HRL HRW
  generalize hg2 : w.heap.size = g2 at *
  have HG2 := Lib.hid hg2
  clear hg2
  have z2 := (Array.getElem?_eq_some_iff.1 H2.out).1
  go_loopw [9, 31] (fun u i wr => ∃ (k : Nat) (a' : Option Addr) (c' : Nat), k ≤ rn ∧ i = .int .i64 (k : Nat) ∧ u = .slice a' k c' ∧ wr.ownsRow w3.heap.size 59 4 (.slice a' k c') k (ruV (rs.take k)) ∧ Below w3.heap.size w3 wr) (fun _ i _ => rn - (intOf i).toNat)
  case atStart => exact ⟨0, none, 0, Nat.zero_le _, rfl, rfl, ⟨rfl, .inl ⟨rfl, rfl⟩⟩, Below.refl _ _⟩
  case round =>
    obtain ⟨k, a', c', hk, rfl, rfl, hown, hb⟩ := hrel
    have HB := Lib.hid hb
    have HO := Lib.hid hown
    have hzr := hb.size
    by_cases hlt : k < rn
    · obtain ⟨r, hr⟩ : ∃ r, rs[k]? = some r := ⟨_, List.getElem?_eq_getElem (by rw [HRU3.out.len]; exact hlt)⟩
      have HSN := Lib.hid (show ruV (rs.take (k + 1)) = ruV (rs.take k) ++ ruV [r] from by rw [take_snoc hr, ruV_app])
      obtain ⟨b, o, ha, hbl, e0, e1, e2, e3⟩ := ru_cells (HRU3.out.has.below hb) hr
      subst ha
      clear hr hb hown
      obtain ⟨⟨r0, r1⟩, r2, r3⟩ := r
      simp only at e0 e1 e2 e3
      go_wp2_with (at_builtin; refine wpApp rfl _ _ 56 rfl w3.heap.size 59 (.agg #[.int .i64 0, .int .i64 0, .int .u32 0, .int .u32 0]) 4 24 Try.underlying56 ruR_info rfl (by decide) _ k (ruV (rs.take k)) rfl (owns_below HO.out (balloc (balloc (brefl wr) _) _) (Nat.le_refl _)) (some ⟨wr.heap.size + 1, 0, none⟩) 1 1 (ruV [⟨(r0, r1), r2, r3⟩]) rfl rfl (by have := has_alloc (wr.alloc (.cells #[.int .i64 r0, .int .i64 r1, .int .u32 r2, .int .u32 r3] 58)) #[.int .i64 r0, .int .i64 r1, .int .u32 r2, .int .u32 r3] 59; rwa [World.size_alloc] at this) (fun h => by cases h) (fun u hu => by simp [ruV, RuleV.enc] at hu; rcases hu with rfl | rfl | rfl | rfl <;> rfl) (by unfold maxLen; omega) (by omega) (by simp only [World.size_alloc]; omega) ?_; intro a6 c6 w6 hown6 k61 k62 k63 hb6 hg6; have HO6 := Lib.hid hown6; have HB6 := Lib.hid hb6; clear hown6 k61 k62 k63 hb6 hg6; (try dsimp only [Act.put]); (try simp only [List.setIfInBounds_toArray, List.set_cons_succ, List.set_cons_zero]))
      go_roundw
      case rel => exact ⟨k + 1, a6, c6, hlt, by go_num, rfl, by rw [HSN.out]; exact HO6.out, ((HB.out.alloc hzr _).alloc (by simp only [World.size_alloc]; omega) _).trans HB6.out⟩
      case measure => simp [intOf]; omega
    · obtain rfl : rn = k := by omega
      have hall : rs.take rn = rs := List.take_of_length_le (by rw [HRU3.out.len]; exact Nat.le_refl _)
      rw [hall] at HO
      have HRR := Lib.hid (show RuOk wr a' rn c' rs from ⟨has_of_owns HO.out, HRU3.out.len, by omega, HRU3.out.wf⟩)
      have HRC := Lib.hid (HRU3.out.below hb)
      have HCR := Lib.hid (HCW.out.below hb)
      have HRFR := Lib.hid (HRF.out.below hb)
      have HFER := Lib.hid (HFE.out.below hb)
      have h2r := (hb.block _ z2).trans H2.out
      have q2 := fun o => cell_of_heap h2r o
      have l2 := (Array.getElem?_eq_some_iff.1 h2r).1
      have HBR := Lib.hid (HBW.out.trans (hb.mono (Nat.le_of_lt z2)))
      clear hall h2r hb hown HO HB H2 HCW HRU3 HRF HFE HBW
      have HST := Lib.hid (fun W (hW : Below wr.heap.size wr W) => settle_any a n c l a1 m1 c1 fs W (HCR.out.below hW) (HFER.out.below hW))
      have HFL := Lib.hid (fun a4 m4 c4 on W (hW : Below wr.heap.size wr W) (hs : SetOk W a4 m4 c4 on) (hr : SetS (exF fs) l on) => flags_any first ra rn rc rs a4 m4 c4 on (exF fs) l W (HRC.out.below hW) hs hr)
      have HFR := Lib.hid (fun W (hW : Below wr.heap.size wr W) => flagsR_any first a' rn c' rs a n c l a2 m1 c2 fs (exF fs) W (HRR.out.below hW) (HCR.out.below hW) (HRFR.out.below hW))
      generalize flagsF (onS (exF fs) l) first rs = F at *
      generalize exF fs = ex at *
      go_wp2_with fail
      refine wp_region_tree (.step 0 (.step 1 (.step 2 (.step 3 (.step 4 (.step 7 (.step 8 (.step 9 (.step 10 (.step 11 (.step 5 (.step 6 (.step 12 (.step 13 (.step 14 .nil))))))))))))))) (by kernel_rfl) (by kernel_rfl) (by kernel_rfl) (by kernel_rfl) (by intro _ _ d_ _ _ h_; cases d_ <;> first | exact h_ | (dsimp +zetaDelta only at h_ ⊢; exact h_)) (fun w' => ∃ p : Wld wr [], w' = p.val) (wld_start _ _) ?_
      have hG_ := @wldC wr
      (refine tree_quiet (by simp only [List.getElem?_toArray, List.getElem?_cons_succ, List.getElem?_cons_zero]; rfl) (by rfl) (by rfl) (fun K_ hK_ => ?_); go_big_quiet_op; refine hK_ _ ?_; clear hK_ K_)
      (refine tree_quiet (by simp only [List.getElem?_toArray, List.getElem?_cons_succ, List.getElem?_cons_zero]; rfl) (by rfl) (by rfl) (fun K_ hK_ => ?_); go_big_quiet_op; refine hK_ _ ?_; clear hK_ K_)
      (refine tree_quiet (by simp only [List.getElem?_toArray, List.getElem?_cons_succ, List.getElem?_cons_zero]; rfl) (by rfl) (by rfl) (fun K_ hK_ => ?_); go_big_quiet_op; refine hK_ _ ?_; clear hK_ K_)
      (refine tree_quiet (by simp only [List.getElem?_toArray, List.getElem?_cons_succ, List.getElem?_cons_zero]; rfl) (by rfl) (by rfl) (fun K_ hK_ => ?_); go_big_quiet_op; refine hK_ _ ?_; clear hK_ K_)
      (refine tree_quiet (by simp only [List.getElem?_toArray, List.getElem?_cons_succ, List.getElem?_cons_zero]; rfl) (by rfl) (by rfl) (fun K_ hK_ => ?_); go_big_quiet_op; refine hK_ _ ?_; clear hK_ K_)
      (refine tree_quiet (by simp only [List.getElem?_toArray, List.getElem?_cons_succ, List.getElem?_cons_zero]; rfl) (by rfl) (by rfl) (fun K_ hK_ => ?_); go_big_quiet_op; refine hK_ _ ?_; clear hK_ K_)
      (refine tree_quiet (by simp only [List.getElem?_toArray, List.getElem?_cons_succ, List.getElem?_cons_zero]; rfl) (by rfl) (by rfl) (fun K_ hK_ => ?_); go_big_quiet_op; refine hK_ _ ?_; clear hK_ K_)
      (refine tree_quiet (by simp only [List.getElem?_toArray, List.getElem?_cons_succ, List.getElem?_cons_zero]; rfl) (by rfl) (by rfl) (fun K_ hK_ => ?_); go_big_quiet_op; refine hK_ _ ?_; clear hK_ K_)
      (refine tree_quiet (by simp only [List.getElem?_toArray, List.getElem?_cons_succ, List.getElem?_cons_zero]; rfl) (by rfl) (by rfl) (fun K_ hK_ => ?_); go_big_quiet_op; refine hK_ _ ?_; clear hK_ K_)
      (refine tree_quiet (by simp only [List.getElem?_toArray, List.getElem?_cons_succ, List.getElem?_cons_zero]; rfl) (by rfl) (by rfl) (fun K_ hK_ => ?_); go_big_quiet_op; refine hK_ _ ?_; clear hK_ K_)
      (refine tree_run (by simp only [List.getElem?_toArray, List.getElem?_cons_succ, List.getElem?_cons_zero]; rfl) (by rfl) (by rfl) (fun K_ hK_ => ?_); have HK_ := Lib.hid hK_; clear hK_; go_wp2_with (first | (go_at_call 17; (with_reducible refine (HST.out _ (by exact blw)).mono ?_); rintro e w4 ⟨a4, m4, c4, on, rfl, hs4, hset4, hm4, hmc4, _, _, hb4⟩; have HS4 := Lib.hid hs4; have HSET := Lib.hid hset4; clear hs4 hset4) | (go_at_call 22; (with_reducible refine (HFL.out a4 m4 c4 on _ (by exact bthen (bdrew1 (brefl wr)) hb4) HS4.out HSET.out).mono ?_); rintro e w5 ⟨rfl, hb5⟩) | (go_at_call 23; (with_reducible refine (HFR.out _ (by exact bthen (bthen (bdrew1 (brefl wr)) hb4) hb5)).mono ?_); rintro e w6 ⟨rfl, hb6⟩; have h6c := bc hb6; have h6f := bf hb6; have h6z := hb6.size; try simp only [World.size_alloc, World.size_drew] at h6z)); refine HK_.out _ _ (wld_ofA) ?_; clear HK_)
      (refine tree_run (by simp only [List.getElem?_toArray, List.getElem?_cons_succ, List.getElem?_cons_zero]; rfl) (by rfl) (by rfl) (fun K_ hK_ => ?_); have HK_ := Lib.hid hK_; clear hK_; go_wp2_with (first | (go_at_call 17; (with_reducible refine (HST.out _ (by exact blw)).mono ?_); rintro e w4 ⟨a4, m4, c4, on, rfl, hs4, hset4, hm4, hmc4, _, _, hb4⟩; have HS4 := Lib.hid hs4; have HSET := Lib.hid hset4; clear hs4 hset4) | (go_at_call 22; (with_reducible refine (HFL.out a4 m4 c4 on _ (by exact bthen (bdrew1 (brefl wr)) hb4) HS4.out HSET.out).mono ?_); rintro e w5 ⟨rfl, hb5⟩) | (go_at_call 23; (with_reducible refine (HFR.out _ (by exact bthen (bthen (bdrew1 (brefl wr)) hb4) hb5)).mono ?_); rintro e w6 ⟨rfl, hb6⟩; have h6c := bc hb6; have h6f := bf hb6; have h6z := hb6.size; try simp only [World.size_alloc, World.size_drew] at h6z)); refine HK_.out _ _ (wld_ofA) ?_; clear HK_)
      (refine tree_run (by simp only [List.getElem?_toArray, List.getElem?_cons_succ, List.getElem?_cons_zero]; rfl) (by rfl) (by rfl) (fun K_ hK_ => ?_); have HK_ := Lib.hid hK_; clear hK_; go_wp2_with (first | (go_at_call 17; (with_reducible refine (HST.out _ (by exact blw)).mono ?_); rintro e w4 ⟨a4, m4, c4, on, rfl, hs4, hset4, hm4, hmc4, _, _, hb4⟩; have HS4 := Lib.hid hs4; have HSET := Lib.hid hset4; clear hs4 hset4) | (go_at_call 22; (with_reducible refine (HFL.out a4 m4 c4 on _ (by exact bthen (bdrew1 (brefl wr)) hb4) HS4.out HSET.out).mono ?_); rintro e w5 ⟨rfl, hb5⟩) | (go_at_call 23; (with_reducible refine (HFR.out _ (by exact bthen (bthen (bdrew1 (brefl wr)) hb4) hb5)).mono ?_); rintro e w6 ⟨rfl, hb6⟩; have h6c := bc hb6; have h6f := bf hb6; have h6z := hb6.size; try simp only [World.size_alloc, World.size_drew] at h6z)); refine HK_.out _ _ (wld_ofA) ?_; clear HK_)
      (refine tree_quiet (by simp only [List.getElem?_toArray, List.getElem?_cons_succ, List.getElem?_cons_zero]; rfl) (by rfl) (by rfl) (fun K_ hK_ => ?_); go_big_quiet_op; refine hK_ _ ?_; clear hK_ K_)
      (refine tree_quiet (by simp only [List.getElem?_toArray, List.getElem?_cons_succ, List.getElem?_cons_zero]; rfl) (by rfl) (by rfl) (fun K_ hK_ => ?_); go_big_quiet_op; refine hK_ _ ?_; clear hK_ K_)
      refine tree_nil ?_
      clear hG_
      go_wp2_with fail
      go_ret
      exact ⟨rfl, by rw [HG2.out]; exact HBR.out.trans ((bthen (bthen (bthen (bdrew1 (brefl wr)) hb4) hb5) hb6).mono (by omega))⟩

open Go.ChangeShapes Go.WideShapes Go.ChangeAt Go.RowKit
open Go.ChangeMaps (open_string shut_string)

set_option maxRecDepth 100000 in
theorem pickFlags_walks (H : Type) (enc : TypeId × Value → H) : Walks H enc 6 [42, 54, 55] := by
  intro W base args ds p hval hA _
  obtain ⟨v0, vs0, d0, ds0, p0, q0, hargs, rfl, rfl, h0, r0⟩ := trodAll_cons hA
  obtain ⟨v1, vs1, d1, ds1, p1, q1, rfl, rfl, rfl, h1, r1⟩ := trodAll_cons r0
  obtain ⟨v2, vs2, d2, ds2, p2, q2, rfl, rfl, rfl, h2, r2⟩ := trodAll_cons r1
  obtain ⟨rfl, rfl, rfl⟩ := trodAll_nil r2
  obtain rfl : args = #[v0, v1, v2] := by cases args; simp_all
  obtain ⟨a, n, c, l, ka, kn, kc, ks, xa, xn, xc, xs, rfl, hC⟩ := open_case (hval 0 42 v0 rfl rfl) h0
  obtain ⟨z, rfl, _⟩ := open_int Try.underlying54 (hval 1 54 v1 rfl rfl) h1
  obtain ⟨ra, rn, rc, rs, rfl, q1, q2, q3, q4, q5⟩ := open_rules (hval 2 55 v2 rfl rfl) h2
  exact pickFlags_walk a n c l ka kn kc ks xa xn xc xs z ra rn rc rs W hC q4 q1 (by omega) q5

set_option maxRecDepth 100000 in
theorem pickFlags_lifted (os : Os) (started : os.Started) (H : Type) (enc : TypeId × Value → H) :
    ReturnsInHanded {} Try.checked os 6 .any (Rows.pickFlagsSpec.pre6 enc Try.prog Try.f6 Rows.pickFlagsRow.domain false) (Rows.pickFlagsSpec.post enc Try.prog Try.f6 false true false false) :=
  lift_law (s := Rows.pickFlagsSpec) (fn := Try.f6) started (by kernel_rfl) Try.func6
    (ChangeSpec.witness6 (enc := enc) (C := Try.checked) false ⟨#[], #[.agg #[.slice none 0 0, .slice none 0 0, .slice none 0 0], .int .u32 0, .slice none 0 0], []⟩ 8 (by kernel_rfl) (by kernel_rfl) (by kernel_rfl) (by kernel_rfl))
    rfl rfl (fun ds h => by match ds, h with | [d0, d1, d2], _ => rfl) (by intro t ht; simp [Try.params6] at ht; first | (subst ht; exact ⟨by kernel_rfl, of_decide_eq_true (by kernel_rfl)⟩) | (obtain rfl | rfl := ht <;> exact ⟨by kernel_rfl, of_decide_eq_true (by kernel_rfl)⟩) | (obtain rfl | rfl | rfl := ht <;> exact ⟨by kernel_rfl, of_decide_eq_true (by kernel_rfl)⟩) | (obtain rfl | rfl | rfl | rfl := ht <;> exact ⟨by kernel_rfl, of_decide_eq_true (by kernel_rfl)⟩))
    (by rw [Try.params6]; exact pickFlags_walks H enc)
theorem pickFlags_over : Rows.pickFlagsRow.holds Try.pinned (OpenSpec.ofChange Rows.pickFlagsSpec) :=
  OpenClaim.holds_of_wide 6 Try.f6 rfl rfl rfl rfl rfl rfl rfl ⟨rfl, rfl, rfl, rfl, rfl⟩ rfl rfl rfl rfl rfl (by kernel_rfl) Try.func6 (by kernel_rfl)
    (of_decide_eq_true (by kernel_rfl)) (by unfold Func.isWrapper; first | (rw [if_pos (by decide +kernel)]; kernel_rfl) | (rw [if_neg (by decide +kernel)]; exact ⟨rfl, rfl⟩))
    (fun os started H enc _ => pickFlags_lifted os started H enc)
theorem pickFlags_proved : Rows.PickFlagsSaid := pickFlags_over
#print axioms pickFlags_proved
end Go.Proofs.Ytfnghinefbmlmaa
