
/- The walk of LigaLess. LigaLess returns true for every plan of a machine, actions, components and ligatures, and every line, and changes nothing: no Run of such a subtable changes how many glyphs there are, nor does it raise a cluster. No condition beside the row's own. -/
import Derived.Test.YtlgkikmmpnnnfaaJ01
import Derived.Test.YtlgkikmmpnnnfaaJ21
import Derived.Test.YtlgkikmmpnnnfaaJ13
namespace Go.Proofs.Ytlgkikmmpnnnfaa
open Go.RowKit Go.Lib

set_option maxRecDepth 100000 in
set_option maxHeartbeats 12800000 in
theorem ligaLess_walk (p : PlanL) (aC aR aE : Option Addr) (rv : List Value) (cC cR cE : Nat) (aA : Option Addr) (cA : Nat) (acts : List Nat) (aK : Option Addr) (cK : Nat) (comps : List Nat) (aL : Option Addr) (cL : Nat) (ligs : List Nat) (aI : Option Addr) (nI cI : Nat) (ids : List Int) (w : World) (hP : PlanHas w p aC aR rv aE) (hw : ∀ e ∈ p.ents, wfI e.1 ∧ wfI e.2.1 ∧ wfI e.2.2.1 ∧ wfI e.2.2.2)
    (hA : Has w aA (u32V acts)) (h32 : ∀ x ∈ acts, x ≤ 4294967295) (hK : Has w aK (u16V comps)) (h16 : ∀ x ∈ comps, x ≤ 65535) (hS : Has w aL (u16V ligs)) (h17 : ∀ x ∈ ligs, x ≤ 65535) (hi : Has w aI (iv ids)) (hil : ids.length = nI) (hiw : ∀ z ∈ ids, -9223372036854775808 ≤ z ∧ z ≤ 9223372036854775807) :
    Calls Try.prog 5 #[.agg #[.slice aC p.cls.length cC, .slice aR p.rows.length cR, .slice aE p.ents.length cE, .int .u8 (p.wide.toNat : Nat), .slice aA acts.length cA, .slice aK comps.length cK, .slice aL ligs.length cL], .slice aI nI cI] w fun e w' => e = .returned (.bool true) ∧ Below w.heap.size w w' := by
  have hAC := allocC
  have hAF := allocF
  have HSP := Lib.hid (fun W (_ : Below w.heap.size w W) => speaks17_any W)
  have hsm := fun W (_ : Below w.heap.size w W) => small17_any aC aR aE aA aK aL aI p.cls.length p.rows.length p.ents.length acts.length comps.length ligs.length nI cC cR cE cA cK cL cI (p.wide.toNat : Int) W
  have HI := Lib.hid hi
  have HIL := Lib.hid hil
  have HIW := Lib.hid hiw
  by_cases hs : Sm17 p.cls.length p.rows.length p.ents.length acts.length comps.length ligs.length nI
  case neg =>
    have HSM := Lib.hid (fun W (hW : Below w.heap.size w W) => (hsm W hW).mono (R' := fun e w' => e = .returned (.bool false) ∧ Below W.heap.size W w') (by
      rintro e w' ⟨⟨b, rfl, hb⟩, hb2⟩
      refine ⟨?_, hb2⟩
      cases b with
      | false => rfl
      | true => exact absurd (hb.1 rfl) hs))
    clear hsm hs hP hw hA h32 hK h16 hS h17 hi hil hiw
    generalize p.cls.length = nC at *
    generalize p.rows.length = nR at *
    generalize p.ents.length = nE at *
    generalize acts.length = nA at *
    generalize comps.length = nK at *
    generalize ligs.length = nL at *
    generalize (p.wide.toNat : Int) = wd at *
    go_enter Try.func5, Try.ntmps5
    go_wp2_with (first | (go_at_call 14; (with_reducible refine (HSP.out _ (by exact blw)).mono ?_); rintro e w1 ⟨rfl, hb1⟩; have h1c := bc hb1; have h1f := bf hb1; have h1z := hb1.size; try simp only [World.size_alloc, World.size_drew] at h1z) | (go_at_call 23; (with_reducible refine (HSM.out _ (by exact blw)).mono ?_); rintro e w2 ⟨rfl, hb2⟩; have h2c := bc hb2; have h2f := bf hb2; have h2z := hb2.size; try simp only [World.size_alloc, World.size_drew] at h2z))
    go_ret
    exact ⟨rfl, blw⟩
  have HSM := Lib.hid (fun W (hW : Below w.heap.size w W) => (hsm W hW).mono (R' := fun e w' => e = .returned (.bool true) ∧ Below W.heap.size W w') (by
    rintro e w' ⟨⟨b, rfl, hb⟩, hb2⟩
    refine ⟨?_, hb2⟩
    rw [hb.2 hs]))
  obtain ⟨hs1, hs2, hs3, hs4, hs5, hs6, hs7⟩ := hs
  have HWR := Lib.hid (fun W (hW : Below w.heap.size w W) => write17_any p aC aR aE rv cC cR cE aA aK aL acts.length cA comps.length cK ligs.length cL acts comps ligs W (hP.below hW) (by omega) (by omega) (by omega) hw (hA.below hW) rfl (by omega) h32 (hK.below hW) rfl (by omega) h16 (hS.below hW) rfl (by omega) h17)
  have hn2 : (ligB p acts comps ligs).length ≤ 100000 := by
    have h1 := ligB_length (p := p) acts comps ligs
    have h2 := planL1 (p := p)
    have h3 : p.n ≤ 11 := by unfold PlanL.n; omega
    have h4 : p.rows.length * p.n ≤ 220 := Nat.le_trans (Nat.mul_le_mul hs2 h3) (by decide)
    omega
  generalize hbs : ligB p acts comps ligs = bs at *
  obtain ⟨nB, hnB⟩ : ∃ nB, nB = bs.length := ⟨_, rfl⟩
  rw [← hnB] at HWR hn2
  have HL := Lib.hid hnB.symm
  clear hsm hs1 hs2 hs3 hs4 hs5 hs6 hP hw hA h32 hK h16 hS h17 hi hil hiw hbs hnB
  generalize p.cls.length = nC at *
  generalize p.rows.length = nR at *
  generalize p.ents.length = nE at *
  generalize acts.length = nA at *
  generalize comps.length = nK at *
  generalize ligs.length = nL at *
  generalize (p.wide.toNat : Int) = wd at *
  by_cases hok : ∃ rs S, JOk bs 40 rs S
  case neg =>
    have hno : ∀ rs S, ¬ JOk bs 40 rs S := fun rs S h => hok ⟨rs, S, h⟩
    have HRD := Lib.hid (fun a c W (hW : Has W a (bytesV bs)) => jread_none a nB c bs 40 40 rfl W hW HL.out (by omega) (by decide) (by decide) hno)
    clear hok hno
    go_enter Try.func5, Try.ntmps5
    go_wp2_with (first
      | (go_at_call 14; (with_reducible refine (HSP.out _ (by exact blw)).mono ?_); rintro e w1 ⟨rfl, hb1⟩; have h1c := bc hb1; have h1f := bf hb1; have h1z := hb1.size; try simp only [World.size_alloc, World.size_drew] at h1z)
      | (go_at_call 23; (with_reducible refine (HSM.out _ (by exact blw)).mono ?_); rintro e w2 ⟨rfl, hb2⟩; have h2c := bc hb2; have h2f := bf hb2; have h2z := hb2.size; try simp only [World.size_alloc, World.size_drew] at h2z)
      | (go_at_call 24; (with_reducible refine (HWR.out _ (by exact blw)).mono ?_); rintro e w3 ⟨a1, c1, rfl, hown, k11, k12, k13, hb3⟩; have HHb := Lib.hid (has_of_owns hown); have h3z := hb3.size; clear hown)
      | (go_at_call 15; (with_reducible refine (HRD.out _ _ _ HHb.out).mono ?_); rintro e w4 ⟨rfl, hb4⟩; have h4z := hb4.size))
    go_ret
    exact ⟨rfl, blw⟩
  obtain ⟨rs, S, hok⟩ := hok
  have HRD := Lib.hid (fun a c W (hW : Has W a (bytesV bs)) => jread_some a nB c bs 40 40 rfl rs S W hW HL.out (by omega) (by decide) (by decide) hok)
  have HRUN := Lib.hid (fun (Lx Bm gt gl : Nat) (a : Option Addr) (c : Nat) (W : World) (hLx : Lx ≤ w.heap.size) (hT : JIs Lx Bm gt bs rs S W) (hG : GIs w.heap.size gl a c (newG ids) W) (hB : w.heap.size ≤ W.heap.size) (hgl : w.heap.size ≤ gl) => jrun_any Lx Bm gt bs 40 rs S w.heap.size gl a c (newG ids) W hT hok (by decide) (by decide) hLx hgl hG hB (newG_idsC HIW.out) (by rw [newG_length, HIL.out]; omega))
  have hLn : (ligD bs rs (bs.drop (num bs 16 4)) (bs.drop (num bs 20 4)) (bs.drop (num bs 24 4)) (newG ids)).1.1.length = nI := by rw [ligD_length, newG_length, HIL.out]
  have hLS := ligD_less bs rs (bs.drop (num bs 16 4)) (bs.drop (num bs 20 4)) (bs.drop (num bs 24 4)) ids
  generalize ligD bs rs (bs.drop (num bs 16 4)) (bs.drop (num bs 20 4)) (bs.drop (num bs 24 4)) (newG ids) = RR at *
  obtain ⟨⟨R, _⟩, _, E⟩ := RR
  simp only at HRUN hLn hLS
  have HLS := Lib.hid hLS
  clear hok hLS
  go_enter Try.func5, Try.ntmps5
  go_wp2_with (first
      | (go_at_call 14; (with_reducible refine (HSP.out _ (by exact blw)).mono ?_); rintro e w1 ⟨rfl, hb1⟩; have h1c := bc hb1; have h1f := bf hb1; have h1z := hb1.size; try simp only [World.size_alloc, World.size_drew] at h1z)
      | (go_at_call 23; (with_reducible refine (HSM.out _ (by exact blw)).mono ?_); rintro e w2 ⟨rfl, hb2⟩; have h2c := bc hb2; have h2f := bf hb2; have h2z := hb2.size; try simp only [World.size_alloc, World.size_drew] at h2z)
      | (go_at_call 24; (with_reducible refine (HWR.out _ (by exact blw)).mono ?_); rintro e w3 ⟨a1, c1, rfl, hown, k11, k12, k13, hb3⟩; have HHb := Lib.hid (has_of_owns hown); have HB3 := Lib.hid (show Below w.heap.size w w3 from by exact blw); have h3z := hb3.size; clear hown)
      | (go_at_call 15; (with_reducible refine (HRD.out _ _ _ HHb.out).mono ?_); rintro e w4 ⟨gt, rfl, hT, hb4⟩; have HT := Lib.hid hT; have HB4 := Lib.hid (HB3.out.trans (hb4.mono HB3.out.size)); clear hT hb4)
      | (go_at_call 17; (with_reducible refine (gnew_any aI nI cI ids w4 (HI.out.below HB4.out) HIL.out (by omega)).mono ?_); rintro e w5 ⟨gx, ax, cx, rfl, hGx, hgx, hb5⟩; have HGX := Lib.hid (hGx.mono HB4.out.size); have HT5 := Lib.hid (HT.out.below hb5); have HB5 := Lib.hid (HB4.out.trans (hb5.mono HB4.out.size)); have hgx0 : w.heap.size ≤ gx := Nat.le_trans HB4.out.size hgx; clear hGx hgx hb5)
      | (go_at_call 18; (with_reducible refine (HRUN.out 0 _ _ _ _ _ w5 (Nat.zero_le _) HT5.out HGX.out HB5.out.size hgx0).mono ?_); rintro e w6 ⟨rfl, ⟨ax6, cx6, hGx6, _⟩, hk6⟩; have HG6 := Lib.hid hGx6; have HB6 := Lib.hid (HB5.out.trans hk6.below); clear hGx6 hk6)
      | (go_at_call 22; (with_reducible refine (show Calls Try.prog 22 #[.pointer (some ⟨gx, 0, none⟩)] w6 fun e w' => ∃ a' c', e = .returned (.slice a' nI c') ∧ w'.ownsRow w6.heap.size 59 2 (.slice a' nI c') nI (gv R) ∧ nI ≤ c' ∧ c' ≤ maxLen ∧ (a' = none → c' = 0) ∧ Below w6.heap.size w6 w' from hLn ▸ gglyphs_any w.heap.size gx ax6 cx6 R w6 HG6.out (by rw [hLn]; omega)).mono ?_); rintro e w7 ⟨a7, c7, rfl, ho, _, _, _, hb7⟩; have HO7 := Lib.hid ho; have HB7 := Lib.hid (HB6.out.trans (hb7.mono HB6.out.size)); clear ho hb7))
  go_loopw [39] (fun i wr => ∃ j : Nat, j ≤ nI ∧ i = .int .i64 (j : Nat) ∧ Below w7.heap.size w7 wr) (fun i _ => nI - (Go.RowKit.intOf i).toNat)
  case atStart => exact ⟨0, Nat.zero_le _, rfl, Below.refl _ _⟩
  case round =>
    obtain ⟨j, hj, rfl, hb⟩ := hrel
    rename World => wr
    have HBR := Lib.hid hb
    have HOR := Lib.hid (owns_below HO7.out hb (Nat.le_refl _))
    have HLN := Lib.hid hLn
    clear hb
    by_cases hlt : j < nI
    · obtain ⟨gi, p, rfl, hgi, hgz, hp, hc1, hc2, _, _, _, _⟩ := grow_at HOR.out HLN.out hlt
      have hp2 := HLS.out j p hp
      obtain ⟨p1, p2⟩ := p
      simp only at hp2 hc1 hc2
      have d1 : decide (p2 < 0) = false := by simp; omega
      have d2 : decide ((j : Int) < p2) = false := by simp; omega
      have d3 : ((j : Nat) : Int) < p2 ↔ False := by simp; omega
      clear hp hp2
      go_wp2_with fail
      go_roundw
      case rel => exact ⟨j + 1, hlt, by go_num, HBR.out.trans (balloc (brefl _) _ |>.mono HBR.out.size)⟩
      case measure => simp only [Go.RowKit.intOf]; omega
    · obtain rfl : nI = j := by omega
      have HBW := Lib.hid (HB7.out.trans (HBR.out.mono HB7.out.size))
      clear hLn hlt
      go_wp2_with fail
      go_ret
      exact ⟨rfl, HBW.out⟩

open Go.ChangeShapes Go.WideShapes Go.ChangeAt Go.RowKit
open Go.ChangeMaps (open_string shut_string)

set_option maxRecDepth 100000 in
theorem ligaLess_walks (H : Type) (enc : TypeId × Value → H) : Walks H enc 5 [55, 23] := by
  intro W base args ds p hval hA _
  obtain ⟨v0, vs0, d0, ds0, p0, q0, hargs, rfl, rfl, h0, r0⟩ := trodAll_cons hA
  obtain ⟨v1, vs1, d1, ds1, p1, q1, rfl, rfl, rfl, h1, r1⟩ := trodAll_cons r0
  obtain ⟨rfl, rfl, rfl⟩ := trodAll_nil r1
  obtain rfl : args = #[v0, v1] := by cases args; simp_all
  obtain ⟨p, aC, aR, aE, rv, cC, cR, cE, aA, cA, acts, aK, cK, comps, aL, cL, ligs, rfl, hP, hw, _, ⟨hAA, h32, _, _⟩, ⟨hK, h16⟩, hS, h17⟩ := open_plan17 (hval 0 55 v0 rfl rfl) h0
  obtain ⟨a, n, c, ids, rfl, hl, _, _, _, hi, hz⟩ := open_ids (hval 1 23 v1 rfl rfl) h1
  exact ligaLess_walk p aC aR aE rv cC cR cE aA cA acts aK cK comps aL cL ligs a n c ids W hP hw hAA h32 hK h16 hS h17 hi hl hz

set_option maxRecDepth 100000 in
theorem ligaLess_lifted (os : Os) (started : os.Started) (H : Type) (enc : TypeId × Value → H) :
    ReturnsInHanded {} Try.checked os 5 .any (Rows.ligaLessSpec.pre6 enc Try.prog Try.f5 Rows.ligaLessRow.domain false) (Rows.ligaLessSpec.post enc Try.prog Try.f5 false true false false) :=
  lift_law (s := Rows.ligaLessSpec) (fn := Try.f5) started (by kernel_rfl) Try.func5
    (ChangeSpec.witness6 (enc := enc) (C := Try.checked) false ⟨#[], #[.agg #[.slice none 0 0, .slice none 0 0, .slice none 0 0, .int .u8 0, .slice none 0 0, .slice none 0 0, .slice none 0 0], .slice none 0 0], []⟩ 8 (by kernel_rfl) (by kernel_rfl) (by kernel_rfl) (by kernel_rfl))
    rfl rfl (fun ds h => by match ds, h with | [d0, d1], _ => rfl) (by intro t ht; simp [Try.params5] at ht; first | (subst ht; exact ⟨by kernel_rfl, of_decide_eq_true (by kernel_rfl)⟩) | (obtain rfl | rfl := ht <;> exact ⟨by kernel_rfl, of_decide_eq_true (by kernel_rfl)⟩) | (obtain rfl | rfl | rfl := ht <;> exact ⟨by kernel_rfl, of_decide_eq_true (by kernel_rfl)⟩) | (obtain rfl | rfl | rfl | rfl := ht <;> exact ⟨by kernel_rfl, of_decide_eq_true (by kernel_rfl)⟩))
    (by rw [Try.params5]; exact ligaLess_walks H enc)
theorem ligaLess_over : Rows.ligaLessRow.holds Try.pinned (OpenSpec.ofChange Rows.ligaLessSpec) :=
  OpenClaim.holds_of_wide 5 Try.f5 rfl rfl rfl rfl rfl rfl rfl ⟨rfl, rfl, rfl, rfl, rfl⟩ rfl rfl rfl rfl rfl (by kernel_rfl) Try.func5 (by kernel_rfl)
    (of_decide_eq_true (by kernel_rfl)) (by unfold Func.isWrapper; first | (rw [if_pos (by decide +kernel)]; kernel_rfl) | (rw [if_neg (by decide +kernel)]; exact ⟨rfl, rfl⟩))
    (fun os started H enc _ => ligaLess_lifted os started H enc)
theorem ligaLess_proved : Rows.LigaLessSaid := ligaLess_over
#print axioms ligaLess_proved
end Go.Proofs.Ytlgkikmmpnnnfaa
