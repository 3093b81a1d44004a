/- Joined from: JWrite JOpen. -/
import Derived.Test.YtbicnkopmamnpaaJ01
import Derived.Test.YtbicnkopmamnpaaJ22
import Derived.Test.YtbicnkopmamnpaaJ18
section

/- The law's Write of layer 17: a plan's bytes. Conditions: a plan in memory; sizes. -/
namespace Go.Proofs.Ytbicnkopmamnpaa
open Go.RowKit Go.Lib

end Go.Proofs.Ytbicnkopmamnpaa
end
section

/- What an argument that is a plan of layer 17 or 18 is; the contracts of the two laws' small. Conditions: as each says. -/
namespace Go.Proofs.Ytbicnkopmamnpaa
section
open Go.ChangeShapes Go.WideShapes Go.ChangeAt Go.RowKit
variable {H : Type} {enc : TypeId × Value → H}
set_option maxRecDepth 100000 in
theorem open_plan18 {W : World} {base : Nat} {v : Value} {d : DataW H} {pl : List MemPlace} (hv : Value.okWide Try.prog W .any base 29 v) (h : DataW.Trod enc Try.prog W 0 (fun _ => true) true 29 v d pl) :
    ∃ (p : PlanL) (aC aR aE : Option Addr) (rv : List Value) (cC cR cE : Nat) (aL : Option Addr) (cL : Nat) (list : List Nat), v = .agg #[.slice aC p.cls.length cC, .slice aR p.rows.length cR, .slice aE p.ents.length cE, .int .u8 (p.wide.toNat : Nat), .slice aL list.length cL] ∧ PlanHas W p aC aR rv aE ∧ (∀ e ∈ p.ents, wfI e.1 ∧ wfI e.2.1 ∧ wfI e.2.2.1 ∧ wfI e.2.2.2) ∧ (aE = none → cE = 0) ∧ Has W aL (u16V list) ∧ (∀ x ∈ list, x ≤ 65535) := by
  obtain ⟨cs, rfl, hsz⟩ := okWide_struct Try.underlying29 hv
  have h5 : Try.prog.cellsOf 29 = 5 := by kernel_rfl
  obtain ⟨v0, v1, v2, v3, v4, rfl⟩ := array5 (hsz.trans h5)
  obtain ⟨fuel, hf⟩ := h
  obtain ⟨y0, y1, n, _, _, h0, h1⟩ := trod_struct2 Try.underlying29 hf
  change DataW.trod enc Try.prog W 0 (fun _ => true) true n 26 [v0, v1, v2, v3] = some y0 at h0
  change DataW.trod enc Try.prog W 0 (fun _ => true) true n 27 [v4] = some y1 at h1
  obtain ⟨p, aC, aR, aE, rv, cC, cR, cE, rfl, rfl, rfl, rfl, hP, hw, hE⟩ := open_planCells h0
  obtain ⟨aL, cL, list, rfl, hS, h16⟩ := open_u16C Try.underlying27 Try.underlying111 h1
  exact ⟨p, aC, aR, aE, rv, cC, cR, cE, aL, cL, list, rfl, hP, hw, hE, hS, h16⟩
end

open Go.RowKit Go.Lib
def Sm17 (nC nR nE nA nK nL nI : Nat) : Prop := nC ≤ 40 ∧ nR ≤ 20 ∧ nE ≤ 40 ∧ nA ≤ 60 ∧ nK ≤ 100 ∧ nL ≤ 100 ∧ nI ≤ 100
set_option maxRecDepth 100000 in
set_option maxHeartbeats 3200000 in
theorem small17_any (aC aR aE aA aK aL aI : Option Addr) (nC nR nE nA nK nL nI cC cR cE cA cK cL cI : Nat) (y : Int) (w : World) :
    Calls Try.prog 31 #[.agg #[.slice aC nC cC, .slice aR nR cR, .slice aE nE cE, .int .u8 y, .slice aA nA cA, .slice aK nK cK, .slice aL nL cL], .slice aI nI cI] w fun e w' => (∃ b : Bool, e = .returned (.bool b) ∧ (b = true ↔ Sm17 nC nR nE nA nK nL nI)) ∧ Below w.heap.size w w' := by
  have hAC := allocC
  have hAF := allocF
  by_cases h0 : nC ≤ 40
  case neg =>
    have d0 : decide ((nC : Int) ≤ 40) = false := by simp; omega
    have HNO := Lib.hid (show ¬ Sm17 nC nR nE nA nK nL nI from fun h => h0 h.1)
    clear h0
    go_enter Try.func31, Try.ntmps31
    go_wp2_with fail
    go_ret
    exact ⟨⟨false, rfl, by simp [HNO.out]⟩, blw⟩
  have d0 : decide ((nC : Int) ≤ 40) = true := by simp; omega
  by_cases h1 : nR ≤ 20
  case neg =>
    have d1 : decide ((nR : Int) ≤ 20) = false := by simp; omega
    have HNO := Lib.hid (show ¬ Sm17 nC nR nE nA nK nL nI from fun h => h1 h.2.1)
    clear h0 h1
    go_enter Try.func31, Try.ntmps31
    go_wp2_with fail
    go_ret
    exact ⟨⟨false, rfl, by simp [HNO.out]⟩, blw⟩
  have d1 : decide ((nR : Int) ≤ 20) = true := by simp; omega
  by_cases h2 : nE ≤ 40
  case neg =>
    have d2 : decide ((nE : Int) ≤ 40) = false := by simp; omega
    have HNO := Lib.hid (show ¬ Sm17 nC nR nE nA nK nL nI from fun h => h2 h.2.2.1)
    clear h0 h1 h2
    go_enter Try.func31, Try.ntmps31
    go_wp2_with fail
    go_ret
    exact ⟨⟨false, rfl, by simp [HNO.out]⟩, blw⟩
  have d2 : decide ((nE : Int) ≤ 40) = true := by simp; omega
  by_cases h3 : nA ≤ 60
  case neg =>
    have d3 : decide ((nA : Int) ≤ 60) = false := by simp; omega
    have HNO := Lib.hid (show ¬ Sm17 nC nR nE nA nK nL nI from fun h => h3 h.2.2.2.1)
    clear h0 h1 h2 h3
    go_enter Try.func31, Try.ntmps31
    go_wp2_with fail
    go_ret
    exact ⟨⟨false, rfl, by simp [HNO.out]⟩, blw⟩
  have d3 : decide ((nA : Int) ≤ 60) = true := by simp; omega
  by_cases h4 : nK ≤ 100
  case neg =>
    have d4 : decide ((nK : Int) ≤ 100) = false := by simp; omega
    have HNO := Lib.hid (show ¬ Sm17 nC nR nE nA nK nL nI from fun h => h4 h.2.2.2.2.1)
    clear h0 h1 h2 h3 h4
    go_enter Try.func31, Try.ntmps31
    go_wp2_with fail
    go_ret
    exact ⟨⟨false, rfl, by simp [HNO.out]⟩, blw⟩
  have d4 : decide ((nK : Int) ≤ 100) = true := by simp; omega
  by_cases h5 : nL ≤ 100
  case neg =>
    have d5 : decide ((nL : Int) ≤ 100) = false := by simp; omega
    have HNO := Lib.hid (show ¬ Sm17 nC nR nE nA nK nL nI from fun h => h5 h.2.2.2.2.2.1)
    clear h0 h1 h2 h3 h4 h5
    go_enter Try.func31, Try.ntmps31
    go_wp2_with fail
    go_ret
    exact ⟨⟨false, rfl, by simp [HNO.out]⟩, blw⟩
  have d5 : decide ((nL : Int) ≤ 100) = true := by simp; omega
  by_cases h6 : nI ≤ 100
  case neg =>
    have d6 : decide ((nI : Int) ≤ 100) = false := by simp; omega
    have HNO := Lib.hid (show ¬ Sm17 nC nR nE nA nK nL nI from fun h => h6 h.2.2.2.2.2.2)
    clear h0 h1 h2 h3 h4 h5 h6
    go_enter Try.func31, Try.ntmps31
    go_wp2_with fail
    go_ret
    exact ⟨⟨false, rfl, by simp [HNO.out]⟩, blw⟩
  have d6 : decide ((nI : Int) ≤ 100) = true := by simp; omega
  have HYES := Lib.hid (show Sm17 nC nR nE nA nK nL nI from ⟨h0, h1, h2, h3, h4, h5, h6⟩)
  clear h0 h1 h2 h3 h4 h5 h6
  go_enter Try.func31, Try.ntmps31
  go_wp2_with fail
  go_ret
  exact ⟨⟨true, rfl, by simp [HYES.out]⟩, blw⟩
def Sm18 (nC nR nE nL nI : Nat) : Prop := nC ≤ 40 ∧ nR ≤ 20 ∧ nE ≤ 40 ∧ nL ≤ 100 ∧ nI ≤ 40
set_option maxRecDepth 100000 in
set_option maxHeartbeats 3200000 in
theorem small18_any (aC aR aE aL aI : Option Addr) (nC nR nE nL nI cC cR cE cL cI : Nat) (y : Int) (w : World) :
    Calls Try.prog 17 #[.agg #[.slice aC nC cC, .slice aR nR cR, .slice aE nE cE, .int .u8 y, .slice aL nL cL], .slice aI nI cI] w fun e w' => (∃ b : Bool, e = .returned (.bool b) ∧ (b = true ↔ Sm18 nC nR nE nL nI)) ∧ Below w.heap.size w w' := by
  have hAC := allocC
  have hAF := allocF
  by_cases h0 : nC ≤ 40
  case neg =>
    have d0 : decide ((nC : Int) ≤ 40) = false := by simp; omega
    have HNO := Lib.hid (show ¬ Sm18 nC nR nE nL nI from fun h => h0 h.1)
    clear h0
    go_enter Try.func17, Try.ntmps17
    go_wp2_with fail
    go_ret
    exact ⟨⟨false, rfl, by simp [HNO.out]⟩, blw⟩
  have d0 : decide ((nC : Int) ≤ 40) = true := by simp; omega
  by_cases h1 : nR ≤ 20
  case neg =>
    have d1 : decide ((nR : Int) ≤ 20) = false := by simp; omega
    have HNO := Lib.hid (show ¬ Sm18 nC nR nE nL nI from fun h => h1 h.2.1)
    clear h0 h1
    go_enter Try.func17, Try.ntmps17
    go_wp2_with fail
    go_ret
    exact ⟨⟨false, rfl, by simp [HNO.out]⟩, blw⟩
  have d1 : decide ((nR : Int) ≤ 20) = true := by simp; omega
  by_cases h2 : nE ≤ 40
  case neg =>
    have d2 : decide ((nE : Int) ≤ 40) = false := by simp; omega
    have HNO := Lib.hid (show ¬ Sm18 nC nR nE nL nI from fun h => h2 h.2.2.1)
    clear h0 h1 h2
    go_enter Try.func17, Try.ntmps17
    go_wp2_with fail
    go_ret
    exact ⟨⟨false, rfl, by simp [HNO.out]⟩, blw⟩
  have d2 : decide ((nE : Int) ≤ 40) = true := by simp; omega
  by_cases h3 : nL ≤ 100
  case neg =>
    have d3 : decide ((nL : Int) ≤ 100) = false := by simp; omega
    have HNO := Lib.hid (show ¬ Sm18 nC nR nE nL nI from fun h => h3 h.2.2.2.1)
    clear h0 h1 h2 h3
    go_enter Try.func17, Try.ntmps17
    go_wp2_with fail
    go_ret
    exact ⟨⟨false, rfl, by simp [HNO.out]⟩, blw⟩
  have d3 : decide ((nL : Int) ≤ 100) = true := by simp; omega
  by_cases h4 : nI ≤ 40
  case neg =>
    have d4 : decide ((nI : Int) ≤ 40) = false := by simp; omega
    have HNO := Lib.hid (show ¬ Sm18 nC nR nE nL nI from fun h => h4 h.2.2.2.2)
    clear h0 h1 h2 h3 h4
    go_enter Try.func17, Try.ntmps17
    go_wp2_with fail
    go_ret
    exact ⟨⟨false, rfl, by simp [HNO.out]⟩, blw⟩
  have d4 : decide ((nI : Int) ≤ 40) = true := by simp; omega
  have HYES := Lib.hid (show Sm18 nC nR nE nL nI from ⟨h0, h1, h2, h3, h4⟩)
  clear h0 h1 h2 h3 h4
  go_enter Try.func17, Try.ntmps17
  go_wp2_with fail
  go_ret
  exact ⟨⟨true, rfl, by simp [HYES.out]⟩, blw⟩
end Go.Proofs.Ytbicnkopmamnpaa
end
