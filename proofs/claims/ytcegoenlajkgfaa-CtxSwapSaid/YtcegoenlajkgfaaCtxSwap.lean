
/- The walk of CtxSwap. CtxSwap returns true for every row of numbers and every line, and changes nothing: a subtable that changes each glyph by itself, by one lookup, without marks, is one of layer 16. No condition beside the row's own. -/
import Derived.Test.YtcegoenlajkgfaaJ16
import Derived.Test.YtcegoenlajkgfaaJ13
namespace Go.Proofs.Ytcegoenlajkgfaa
open Go.RowKit Go.Lib

theorem wf_planQ : ∀ e ∈ planQ.ents, wfI e.1 ∧ wfI e.2.1 ∧ wfI e.2.2.1 ∧ wfI e.2.2.2 := by
  intro e he
  simp only [planQ, List.mem_cons, List.not_mem_nil, or_false] at he
  subst he
  unfold wfI
  decide
theorem writeQ (aR aE aS : Option Addr) (us : List Nat) (rv sv : List Value) (w : World) (h : PlanHas w planQ none aR rv aE) (hS : SubsHas w aS [us] sv) (h60 : us.length ≤ 60) (h16 : ∀ x ∈ us, x ≤ 65535) (n : Nat) (hn : n = (headQ ++ sub8 us).length) :
    Calls Try.prog 14 #[.agg #[.slice none 0 0, .slice aR 2 2, .slice aE 1 1, .int .u8 0], .slice aS 1 1] w fun e w' => ∃ a' c', e = .returned (.slice a' n c') ∧ w'.ownsRow w.heap.size 5 1 (.slice a' n c') n (bytesV (headQ ++ sub8 us)) ∧ n ≤ c' ∧ c' ≤ maxLen ∧ Below w.heap.size w w' := by
  have := write15_any planQ none aR aE rv 0 2 1 aS 1 1 [us] sv w h (by decide) (by decide) (by decide) wf_planQ hS rfl (by decide) (fun r hr => by simp at hr; subst hr; omega) (fun r hr => by simp at hr; subst hr; exact h16)
  rw [ctxQ, ← hn] at this
  refine this.mono ?_
  rintro e w' ⟨a', c', h1, h2, h3, h4, _, h6⟩
  exact ⟨a', c', h1, h2, h3, h4, h6⟩
theorem swap_at (us : List Nat) (hl : us.length ≤ 65535) (hx : ∀ x ∈ us, x ≤ 65535) (ids : List Int) {j : Nat} {p : Int × Int} {z : Int} (h : ((newG ids).map (chg (lkC (headQ ++ sub8 us) [row8 us])))[j]? = some p) (hz : ids[j]? = some z) :
    p.2 = (j : Nat) ∧ (0 ≤ z ∧ z < (us.length : Int) → p.1 = (us.getD z.toNat 0 : Nat)) ∧ (¬ (0 ≤ z ∧ z < (us.length : Int)) → p.1 = z) := by
  rw [List.getElem?_map, newG_get, hz] at h
  injection h with h
  have h : chg (lkC (headQ ++ sub8 us) [row8 us]) (z, (j : Int)) = p := h
  rw [← h]
  unfold chg
  simp only [lkQ us hl hx]
  unfold give8
  by_cases hin : 0 ≤ z ∧ z < (us.length : Int)
  · rw [if_pos hin, if_pos rfl]
    exact ⟨rfl, fun _ => rfl, fun h => absurd hin h⟩
  · rw [if_neg hin, if_neg (by decide)]
    exact ⟨rfl, fun h => absurd h hin, fun _ => rfl⟩
set_option maxRecDepth 100000 in
set_option maxHeartbeats 12800000 in
theorem ctxSwap_walk (aU : Option Addr) (nU cU : Nat) (us : List Nat) (aI : Option Addr) (nI cI : Nat) (ids : List Int) (w : World) (hU : Has w aU (u16V us)) (hul : us.length = nU) (h16 : ∀ x ∈ us, x ≤ 65535)
    (hi : Has w aI (iv ids)) (hil : ids.length = nI) (hiw : ∀ z ∈ ids, -9223372036854775808 ≤ z ∧ z ≤ 9223372036854775807) :
    Calls Try.prog 5 #[.slice aU nU cU, .slice aI nI cI] w fun e w' => e = .returned (.bool true) ∧ Below w.heap.size w w' := by
  have hAC := allocC
  have hAF := allocF
  have HSP := Lib.hid (fun W (_ : Below w.heap.size w W) => speaks15_any W)
  have HU := Lib.hid hU
  have HUL := Lib.hid hul
  have HU16 := Lib.hid h16
  have HI := Lib.hid hi
  have HIL := Lib.hid hil
  have HIW := Lib.hid hiw
  clear hU hul h16 hi hil hiw
  by_cases hbig : 60 < nU
  · have d1 : decide (60 < (nU : Int)) = true := by simp; omega
    go_enter Try.func5, Try.ntmps5
    go_wp2_with (first | (go_at_call 12; (with_reducible refine (HSP.out _ (by exact blw)).mono ?_); rintro e w1 ⟨rfl, hb1⟩; have h1c := bc hb1; have h1f := bf hb1; have h1z := hb1.size; try simp only [World.size_alloc, World.size_drew] at h1z))
    go_ret
    exact ⟨rfl, blw⟩
  have d1 : decide (60 < (nU : Int)) = false := by simp; omega
  by_cases hbig2 : 60 < nI
  · have d2 : decide (60 < (nI : Int)) = true := by simp; omega
    go_enter Try.func5, Try.ntmps5
    go_wp2_with (first | (go_at_call 12; (with_reducible refine (HSP.out _ (by exact blw)).mono ?_); rintro e w1 ⟨rfl, hb1⟩; have h1c := bc hb1; have h1f := bf hb1; have h1z := hb1.size; try simp only [World.size_alloc, World.size_drew] at h1z))
    go_ret
    exact ⟨rfl, blw⟩
  have d2 : decide (60 < (nI : Int)) = false := by simp; omega
  have hu60 : nU ≤ 60 := by omega
  have hI60 : nI ≤ 60 := by omega
  go_enter Try.func5, Try.ntmps5
  go_wp2_with (first | (go_at_call 12; (with_reducible refine (HSP.out _ (by exact blw)).mono ?_); rintro e w1 ⟨rfl, hb1⟩; have h1c := bc hb1; have h1f := bf hb1; have h1z := hb1.size; try simp only [World.size_alloc, World.size_drew] at h1z))
  obtain ⟨v1, g1⟩ : ∃ v1, v1 = w1.alloc (Obj.cells #[.int .u8 0] 5) := ⟨_, rfl⟩
  obtain ⟨v2, g2⟩ : ∃ v2, v2 = v1.alloc (Obj.cells #[.int .u8 0] 5) := ⟨_, rfl⟩
  obtain ⟨v3, g3⟩ : ∃ v3, v3 = v2.alloc (Obj.cells #[.slice (some ⟨w1.heap.size, 0, none⟩) 1 1, .slice (some ⟨v1.heap.size, 0, none⟩) 1 1] 22) := ⟨_, rfl⟩
  obtain ⟨v4, g4⟩ : ∃ v4, v4 = v3.alloc (Obj.cells #[.int .i64 0, .int .i64 0, .int .i64 65535, .int .i64 0] 60) := ⟨_, rfl⟩
  obtain ⟨v5, g5⟩ : ∃ v5, v5 = v4.alloc (Obj.cells #[.slice none 0 0, .slice (some ⟨v2.heap.size, 0, none⟩) 2 2, .slice (some ⟨v3.heap.size, 0, none⟩) 1 1, .int .u8 0] 26) := ⟨_, rfl⟩
  obtain ⟨v6, g6⟩ : ∃ v6, v6 = v5.alloc (Obj.cells #[.slice aU nU cU] 62) := ⟨_, rfl⟩
  have z1 : v1.heap.size = w1.heap.size + 1 := by rw [g1]; simp
  have z2 : v2.heap.size = v1.heap.size + 1 := by rw [g2]; simp
  have z3 : v3.heap.size = v2.heap.size + 1 := by rw [g3]; simp
  have z4 : v4.heap.size = v3.heap.size + 1 := by rw [g4]; simp
  have z5 : v5.heap.size = v4.heap.size + 1 := by rw [g5]; simp
  have b1 : Below w1.heap.size w1 v1 := by rw [g1]; exact balloc (brefl w1) _
  have b2 : Below v1.heap.size v1 v2 := by rw [g2]; exact balloc (brefl v1) _
  have b3 : Below v2.heap.size v2 v3 := by rw [g3]; exact balloc (brefl v2) _
  have b4 : Below v3.heap.size v3 v4 := by rw [g4]; exact balloc (brefl v3) _
  have b5 : Below v4.heap.size v4 v5 := by rw [g5]; exact balloc (brefl v4) _
  have b6 : Below v5.heap.size v5 v6 := by rw [g6]; exact balloc (brefl v5) _
  have b46 : Below v4.heap.size v4 v6 := b5.trans (b6.mono b5.size)
  have b36 : Below v3.heap.size v3 v6 := b4.trans (b46.mono b4.size)
  have b26 : Below v2.heap.size v2 v6 := b3.trans (b36.mono b3.size)
  have b16 : Below v1.heap.size v1 v6 := b2.trans (b26.mono b2.size)
  have b06 : Below w1.heap.size w1 v6 := b1.trans (b16.mono b1.size)
  have HB6 := Lib.hid (show Below w.heap.size w v6 from Below.trans (by exact blw) (b06.mono (by exact hb1.size)))
  have HP := Lib.hid (show PlanHas v6 planQ none (some ⟨v2.heap.size, 0, none⟩) [.slice (some ⟨w1.heap.size, 0, none⟩) 1 1, .slice (some ⟨v1.heap.size, 0, none⟩) 1 1] (some ⟨v3.heap.size, 0, none⟩) from ⟨fun j u h => by simp [planQ, bytesV] at h, by
      have := has_alloc v2 #[.slice (some ⟨w1.heap.size, 0, none⟩) 1 1, .slice (some ⟨v1.heap.size, 0, none⟩) 1 1] 22
      rw [← g3] at this
      exact this.below b36, rfl, by
      have k2 := has_alloc w1 #[.int .u8 0] 5
      have k3 := has_alloc v1 #[.int .u8 0] 5
      rw [← g1] at k2
      rw [← g2] at k3
      intro i r hr
      match i, hr with
      | 0, hr => simp [planQ] at hr; subst hr; exact ⟨_, 1, rfl, k2.below b16⟩
      | 1, hr => simp [planQ] at hr; subst hr; exact ⟨_, 1, rfl, k3.below b26⟩
      | n + 2, hr => simp [planQ] at hr, by
      have := has_alloc v3 #[.int .i64 0, .int .i64 0, .int .i64 65535, .int .i64 0] 60
      rw [← g4] at this
      exact this.below b46⟩)
  have HSB := Lib.hid (show SubsHas v6 (some ⟨v5.heap.size, 0, none⟩) [us] [.slice aU nU cU] from ⟨by
      have := has_alloc v5 #[.slice aU nU cU] 62
      rw [← g6] at this
      exact this, rfl, by
      intro i r hr
      match i, hr with
      | 0, hr => simp at hr; subst hr; exact ⟨aU, cU, by rw [HUL.out]; rfl, HU.out.below HB6.out⟩
      | n + 1, hr => simp at hr⟩)
  rw [← g1, ← g2, ← z1, ← g3, ← z2, ← g4, ← z3, ← z4, ← g5, ← z5, ← g6]
  obtain ⟨nB, hnB⟩ : ∃ nB, nB = (headQ ++ sub8 us).length := ⟨_, rfl⟩
  have HL := Lib.hid hnB.symm
  have HWR := Lib.hid (writeQ (some ⟨v2.heap.size, 0, none⟩) (some ⟨v3.heap.size, 0, none⟩) (some ⟨v5.heap.size, 0, none⟩) us [.slice (some ⟨w1.heap.size, 0, none⟩) 1 1, .slice (some ⟨v1.heap.size, 0, none⟩) 1 1] [.slice aU nU cU] v6 HP.out HSB.out (by rw [HUL.out]; exact hu60) HU16.out nB hnB)
  have hok := okQ us (by rw [HUL.out]; omega)
  have hD := ctxD_Q (headQ ++ sub8 us) [] (lkC (headQ ++ sub8 us) [row8 us]) (newG ids) (q0 _) (enQ _)
  have HSW := Lib.hid (fun (j : Nat) (p : Int × Int) (z : Int) => swap_at us (by rw [HUL.out]; omega) HU16.out ids (j := j) (p := p) (z := z))
  have HRD := Lib.hid (fun a c W (hW : Has W a (bytesV (headQ ++ sub8 us))) (h1 : nB ≤ c) (h2 : c ≤ maxLen) => cread_some a nB c (headQ ++ sub8 us) 40 40 rfl [] 2 [row8 us] W hW HL.out h1 h2 (by decide) (by decide) hok)
  have HRUN := Lib.hid (fun (Bm gt gl : Nat) (a : Option Addr) (c : Nat) (W : World) (hT : CIs Bm gt (headQ ++ sub8 us) [] 2 [row8 us] W) (hG : GIs w.heap.size gl a c (newG ids) W) (hB : w.heap.size ≤ W.heap.size) => crun_any Bm gt (headQ ++ sub8 us) 40 [] 2 [row8 us] w.heap.size gl a c (newG ids) W hT hok (by decide) (by decide) hG hB (newG_idsC HIW.out) (by rw [newG_length, HIL.out]; omega))
  rw [hD] at HRUN
  have hLn : ((newG ids).map (chg (lkC (headQ ++ sub8 us) [row8 us]))).length = nI := by rw [List.length_map, newG_length, HIL.out]
  simp only at HRUN
  generalize (newG ids).map (chg (lkC (headQ ++ sub8 us) [row8 us])) = L at *
  generalize headQ ++ sub8 us = bs at *
  generalize row8 us = rw8 at *
  clear g1 g2 g3 g4 g5 g6 b1 b2 b3 b4 b5 b6 b46 b36 b26 b16 b06 z1 z2 z3 z4 z5 hnB hok hD hbig hbig2 d1 d2 h1c h1f hb1
  refine HWR.out.mono ?_
  rintro e w9 ⟨a9, c9, rfl, ho9, k9, k99, hb9⟩
  have HH9 := Lib.hid (has_of_owns ho9)
  have HB9 := Lib.hid (HB6.out.trans (hb9.mono HB6.out.size))
  clear ho9 hb9
  go_wp2_with (first
    | (go_at_call 15; (with_reducible refine (HRD.out _ _ _ HH9.out k9 k99).mono ?_); rintro e w10 ⟨gt, rfl, hT, hb10⟩; have HT := Lib.hid hT; have HB10 := Lib.hid (HB9.out.trans (hb10.mono HB9.out.size)); clear hT hb10)
    | (go_at_call 17; (with_reducible refine (gnew_any aI nI cI ids w10 (HI.out.below HB10.out) HIL.out (by omega)).mono ?_); rintro e w11 ⟨gl, a11, c11, rfl, hG, hgl, hb11⟩; have HT11 := Lib.hid (HT.out.below hb11); have HB11 := Lib.hid (HB10.out.trans (hb11.mono HB10.out.size)); have HG11 := Lib.hid (hG.mono HB10.out.size); clear hG hb11 hgl)
    | (go_at_call 18; (with_reducible refine (HRUN.out _ _ _ _ _ _ HT11.out HG11.out HB11.out.size).mono ?_); rintro e w12 ⟨rfl, ⟨a12, c12, hG, _⟩, hk12⟩; have HG12 := Lib.hid hG; have HB12 := Lib.hid (HB11.out.trans hk12.below); clear hG hk12)
    | (go_at_call 21; (with_reducible refine (show Calls Try.prog 21 #[.pointer (some ⟨gl, 0, none⟩)] w12 fun e w' => ∃ a' c', e = .returned (.slice a' nI c') ∧ w'.ownsRow w12.heap.size 57 2 (.slice a' nI c') nI (gv L) ∧ nI ≤ c' ∧ c' ≤ maxLen ∧ (a' = none → c' = 0) ∧ Below w12.heap.size w12 w' from hLn ▸ gglyphs_any w.heap.size gl a12 c12 L w12 HG12.out (by rw [hLn]; omega)).mono ?_); rintro e w13 ⟨a13, c13, rfl, ho, _, _, _, hb13⟩; have HO13 := Lib.hid ho; have HG13 := Lib.hid (HG12.out.below hb13); have HB13 := Lib.hid (HB12.out.trans (hb13.mono HB12.out.size)); clear ho hb13))
  go_loopw [51] (fun i wr => ∃ j : Nat, j ≤ nI ∧ i = .int .i64 (j : Nat) ∧ Below w13.heap.size w13 wr) (fun i _ => nI - (Go.RowKit.intOf i).toNat)
  case atStart => exact ⟨0, Nat.zero_le _, rfl, Below.refl _ _⟩
  case round =>
    obtain ⟨j, hj, rfl, hb⟩ := hrel
    rename World => wr
    have HBR := Lib.hid hb
    have HOR := Lib.hid (owns_below HO13.out hb (Nat.le_refl _))
    have HBW := Lib.hid (HB13.out.trans (hb.mono HB13.out.size))
    have HLN := Lib.hid hLn
    clear hb
    by_cases hlt : j < nI
    · obtain ⟨gi, p, rfl, hgi, hgz, hp, hc1, hc2, _, _, _, _⟩ := grow_at HOR.out HLN.out hlt
      obtain ⟨z, hz⟩ : ∃ z, ids[j]? = some z := ⟨_, List.getElem?_eq_getElem (by rw [HIL.out]; exact hlt)⟩
      obtain ⟨hp2, hin, hout⟩ := HSW.out j p z hp hz
      obtain ⟨bI, oI, hbI, hblI, hcI⟩ := (HI.out.below HBW.out).get (by rw [iv_length, HIL.out]; omega)
      have e1 := hcI j _ (iv_get hz)
      have hzw := HIW.out z (List.mem_of_getElem? hz)
      obtain ⟨p1, p2⟩ := p
      simp only at hp2 hin hout hc1 hc2
      rw [HUL.out] at hin hout
      subst hp2 hbI
      have d4 : (((j : Nat) : Int) != (j : Int)) = false := by simp
      have HREL := Lib.hid (HBR.out.trans (balloc (brefl wr) (.cells #[.int .i64 p1, .int .i64 (j : Nat)] 57) |>.mono HBR.out.size))
      clear hcI hz hp
      by_cases h0 : 0 ≤ z
      · have d0 : decide (0 ≤ z) = true := by simpa using h0
        obtain ⟨k, rfl⟩ : ∃ k : Nat, z = k := ⟨z.toNat, by omega⟩
        by_cases hk : k < nU
        · have dk : decide ((k : Int) < (nU : Int)) = true := by simp; omega
          have hpx := hin ⟨by omega, by omega⟩
          rw [Int.toNat_natCast] at hpx
          obtain ⟨bU, oU, hbU, hblU, hcU⟩ := (HU.out.below HBW.out).get (by rw [u16V_length, HUL.out]; omega)
          have e2 := hcU k _ (u16V_get us k (by rw [HUL.out]; exact hk))
          have hx16 : us.getD k 0 ≤ 65535 := HU16.out _ (by rw [List.getD_eq_getElem?_getD, List.getElem?_eq_getElem (by rw [HUL.out]; exact hk)]; exact List.getElem_mem _)
          generalize us.getD k 0 = x at *
          have hcw : IntKind.i64.wrap ((x : Nat) : Int) = (x : Int) := IntWalk.i64_in _ (by omega)
          have d3 : (((x : Nat) : Int) != (x : Int)) = false := by simp
          subst hpx hbU
          clear hcU hin hout hzw
          go_wp2_with fail
          go_roundw
          case rel => exact ⟨j + 1, hlt, by go_num, HREL.out⟩
          case measure => simp only [Go.RowKit.intOf]; omega
        · have dk : decide ((k : Int) < (nU : Int)) = false := by simp; omega
          have hpx := hout (by omega)
          have d3 : (((k : Nat) : Int) != (k : Int)) = false := by simp
          subst hpx
          clear hin hout hzw
          go_wp2_with fail
          go_roundw
          case rel => exact ⟨j + 1, hlt, by go_num, HREL.out⟩
          case measure => simp only [Go.RowKit.intOf]; omega
      · have d0 : decide (0 ≤ z) = false := by simpa using h0
        have hpx := hout (by omega)
        have d3 : (z != z) = false := by simp
        subst hpx
        clear hin hout hzw
        go_wp2_with fail
        go_roundw
        case rel => exact ⟨j + 1, hlt, by go_num, HREL.out⟩
        case measure => simp only [Go.RowKit.intOf]; omega
    · obtain rfl : nI = j := by omega
      have hgl := glen_any w.heap.size gl a12 c12 L wr (HG13.out.below HBR.out)
      rw [hLn] at hgl
      have HLE := Lib.hid hgl
      clear hgl hLn
      go_wp2_with (go_at_call 23; (with_reducible refine HLE.out.mono ?_); rintro e w_ ⟨rfl, rfl⟩)
      go_ret
      exact ⟨rfl, HBW.out⟩

open Go.ChangeShapes Go.WideShapes Go.ChangeAt Go.RowKit
open Go.ChangeMaps (open_string shut_string)

set_option maxRecDepth 100000 in
theorem ctxSwap_walks (H : Type) (enc : TypeId × Value → H) : Walks H enc 5 [62, 30] := by
  intro W base args ds p hval hA _
  obtain ⟨v0, vs0, d0, ds0, p0, q0, hargs, rfl, rfl, h0, r0⟩ := trodAll_cons hA
  obtain ⟨v1, vs1, d1, ds1, p1, q1, rfl, rfl, rfl, h1, r1⟩ := trodAll_cons r0
  obtain ⟨rfl, rfl, rfl⟩ := trodAll_nil r1
  obtain rfl : args = #[v0, v1] := by cases args; simp_all
  obtain ⟨a0, n0, c0, zs, rfl, hul, _, _, _, hU, hw0⟩ := open_nums Try.underlying62 Try.underlying63 (hval 0 62 v0 rfl rfl) h0
  obtain ⟨us, hu1, hu2, hu3⟩ := u16s_of zs hw0
  obtain ⟨a, n, c, ids, rfl, hl, _, _, _, hi, hz⟩ := open_ids (hval 1 30 v1 rfl rfl) h1
  rw [hu2] at hU
  exact ctxSwap_walk a0 n0 c0 us a n c ids W hU (by rw [hu1, hul]) hu3 hi hl hz

set_option maxRecDepth 100000 in
theorem ctxSwap_lifted (os : Os) (started : os.Started) (H : Type) (enc : TypeId × Value → H) :
    ReturnsInHanded {} Try.checked os 5 .any (Rows.ctxSwapSpec.pre6 enc Try.prog Try.f5 Rows.ctxSwapRow.domain false) (Rows.ctxSwapSpec.post enc Try.prog Try.f5 false true false false) :=
  lift_law (s := Rows.ctxSwapSpec) (fn := Try.f5) started (by kernel_rfl) Try.func5
    (ChangeSpec.witness6 (enc := enc) (C := Try.checked) false ⟨#[], #[.slice none 0 0, .slice none 0 0], []⟩ 8 (by kernel_rfl) (by kernel_rfl) (by kernel_rfl) (by kernel_rfl))
    rfl rfl (fun ds h => by match ds, h with | [d0, d1], _ => rfl) (by intro t ht; simp [Try.params5] at ht; first | (subst ht; exact ⟨by kernel_rfl, of_decide_eq_true (by kernel_rfl)⟩) | (obtain rfl | rfl := ht <;> exact ⟨by kernel_rfl, of_decide_eq_true (by kernel_rfl)⟩) | (obtain rfl | rfl | rfl := ht <;> exact ⟨by kernel_rfl, of_decide_eq_true (by kernel_rfl)⟩) | (obtain rfl | rfl | rfl | rfl := ht <;> exact ⟨by kernel_rfl, of_decide_eq_true (by kernel_rfl)⟩))
    (by rw [Try.params5]; exact ctxSwap_walks H enc)
theorem ctxSwap_over : Rows.ctxSwapRow.holds Try.pinned (OpenSpec.ofChange Rows.ctxSwapSpec) :=
  OpenClaim.holds_of_wide 5 Try.f5 rfl rfl rfl rfl rfl rfl rfl ⟨rfl, rfl, rfl, rfl, rfl⟩ rfl rfl rfl rfl rfl (by kernel_rfl) Try.func5 (by kernel_rfl)
    (of_decide_eq_true (by kernel_rfl)) (by unfold Func.isWrapper; first | (rw [if_pos (by decide +kernel)]; kernel_rfl) | (rw [if_neg (by decide +kernel)]; exact ⟨rfl, rfl⟩))
    (fun os started H enc _ => ctxSwap_lifted os started H enc)
theorem ctxSwap_proved : Rows.CtxSwapSaid := ctxSwap_over
#print axioms ctxSwap_proved
end Go.Proofs.Ytcegoenlajkgfaa
