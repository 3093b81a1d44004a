/- Joined from: COpen. -/
import Derived.Test.YtcegoenlajkgfaaJ01
import Derived.ChangeSame
import Derived.Test.YtcegoenlajkgfaaJ15
import Derived.Test.YtcegoenlajkgfaaJ17
section

/- What an argument that is a plan of a machine and lookups is; the contract of law 15's small. Conditions: as each says. -/
namespace Go.Proofs.Ytcegoenlajkgfaa
section
open Go.ChangeShapes Go.WideShapes Go.ChangeAt Go.RowKit
variable {H : Type} {enc : TypeId × Value → H}
theorem open_u16C {P : Program} {W : World} {t e : TypeId} {f : Nat} {v : Value} {y : DataW H × List MemPlace} (ht : P.underlying t = some (.slice e)) (he : P.underlying e = some (.int .u16))
    (h : DataW.trod enc P W 0 (fun _ => true) true f t [v] = some y) : ∃ (a : Option Addr) (c : Nat) (ss : List Nat), v = .slice a ss.length c ∧ Has W a (u16V ss) ∧ ∀ x ∈ ss, x ≤ 65535 := by
  obtain ⟨a, n, c, us, rfl, hl, _, _, _, hh, hx⟩ := open_rows_cell ht h
  have key : ∀ us : List (List Value), (∀ x ∈ us, ∃ m y, DataW.trod enc P W 0 (fun _ => true) true m e x = some y) → ∃ ss : List Nat, ss.length = us.length ∧ us.flatten = u16V ss ∧ ∀ x ∈ ss, x ≤ 65535 := by
    intro us
    induction us with
    | nil => exact fun _ => ⟨[], rfl, rfl, fun x hx => by cases hx⟩
    | cons x us ih =>
      intro h
      obtain ⟨ss, h1, h2, h3⟩ := ih (fun y hy => h y (by simp [hy]))
      obtain ⟨m, y, hy⟩ := h x (by simp)
      obtain ⟨z, rfl, _, hw⟩ := DataW.trod_int he hy
      obtain ⟨k, rfl, hk⟩ := wf_u16 hw
      refine ⟨k :: ss, by simp [h1], by simp [h2, u16V], fun x hx => ?_⟩
      rcases List.mem_cons.1 hx with rfl | hx
      · exact hk
      · exact h3 x hx
  obtain ⟨ss, h1, h2, h3⟩ := key us (fun x hx' => (hx x hx').2)
  exact ⟨a, c, ss, by rw [h1, hl], h2 ▸ hh, h3⟩
theorem open_rows16C {P : Program} {W : World} {t e u : TypeId} {f : Nat} {v : Value} {y : DataW H × List MemPlace} (ht : P.underlying t = some (.slice e)) (he : P.underlying e = some (.slice u)) (hu : P.underlying u = some (.int .u16)) (hc : P.cellsOf e = 1)
    (h : DataW.trod enc P W 0 (fun _ => true) true f t [v] = some y) : ∃ (a : Option Addr) (c : Nat) (l : List (List Nat)) (sv : List Value), v = .slice a l.length c ∧ SubsHas W a l sv ∧ (∀ r ∈ l, ∀ x ∈ r, x ≤ 65535) ∧ l.length ≤ maxLen := by
  obtain ⟨a, n, c, us, rfl, hl, hnc, hcm, _, hh, hx⟩ := open_rows_cell ht h
  have key : ∀ us : List (List Value), (∀ x ∈ us, x.length = P.cellsOf e ∧ ∃ m y, DataW.trod enc P W 0 (fun _ => true) true m e x = some y) → ∃ l : List (List Nat), l.length = us.length ∧ us.flatten.length = l.length ∧
      (∀ (i : Nat) (r : List Nat), l[i]? = some r → ∃ (ai : Option Addr) (ci : Nat), us.flatten[i]? = some (Value.slice ai r.length ci) ∧ Has W ai (u16V r)) ∧ ∀ r ∈ l, ∀ x ∈ r, x ≤ 65535 := by
    intro us
    induction us with
    | nil => exact fun _ => ⟨[], rfl, rfl, fun i r hr => by simp at hr, fun r hr => by cases hr⟩
    | cons x us ih =>
      intro h
      obtain ⟨l, h1, h2, h3, h4⟩ := ih (fun y hy => h y (by simp [hy]))
      obtain ⟨hlx, m, y, hy⟩ := h x (by simp)
      rw [hc] at hlx
      obtain ⟨x0, rfl⟩ : ∃ x0, x = [x0] := by
        match x, hlx with
        | [x0], _ => exact ⟨x0, rfl⟩
      obtain ⟨ai, ci, ss, rfl, hb, hb2⟩ := open_u16C he hu hy
      refine ⟨ss :: l, by simp [h1], by simpa using h2, fun i r hr => ?_, fun r hr => ?_⟩
      · match i with
        | 0 =>
          simp at hr
          subst hr
          exact ⟨ai, ci, by simp, hb⟩
        | i + 1 =>
          obtain ⟨aj, cj, q1, q2⟩ := h3 i r (by simpa using hr)
          exact ⟨aj, cj, by simpa using q1, q2⟩
      · rcases List.mem_cons.1 hr with rfl | hr
        · exact hb2
        · exact h4 r hr
  obtain ⟨l, h1, h2, h3, h4⟩ := key us hx
  exact ⟨a, c, l, us.flatten, by rw [h1, hl], ⟨hh, h2, h3⟩, h4, by rw [h1, hl]; omega⟩
theorem array5 {α : Type} {cs : Array α} (h : cs.size = 5) : ∃ c0 c1 c2 c3 c4, cs = #[c0, c1, c2, c3, c4] := by
  obtain ⟨l⟩ := cs
  match l, h with
  | [c0, c1, c2, c3, c4], _ => exact ⟨c0, c1, c2, c3, c4, rfl⟩
set_option maxRecDepth 100000 in
theorem open_planCells {W : World} {f : Nat} {v0 v1 v2 v3 : Value} {y : DataW H × List MemPlace} (h : DataW.trod enc Try.prog W 0 (fun _ => true) true f 26 [v0, v1, v2, v3] = some y) :
    ∃ (p : PlanL) (aC aR aE : Option Addr) (rv : List Value) (cC cR cE : Nat), v0 = .slice aC p.cls.length cC ∧ v1 = .slice aR p.rows.length cR ∧ v2 = .slice aE p.ents.length cE ∧ v3 = .int .u8 (p.wide.toNat : Nat) ∧ PlanHas W p aC aR rv aE ∧ (∀ e ∈ p.ents, wfI e.1 ∧ wfI e.2.1 ∧ wfI e.2.2.1 ∧ wfI e.2.2.2) ∧ (aE = none → cE = 0) := by
  obtain ⟨y0, y1, y2, y3, n, _, _, h0, h1, h2, h3⟩ := Go.Joins.trod_struct4 Try.underlying26 h
  change DataW.trod enc Try.prog W 0 (fun _ => true) true n 22 [v0] = some y0 at h0
  change DataW.trod enc Try.prog W 0 (fun _ => true) true n 23 [v1] = some y1 at h1
  change DataW.trod enc Try.prog W 0 (fun _ => true) true n 24 [v2] = some y2 at h2
  change DataW.trod enc Try.prog W 0 (fun _ => true) true n 5 [v3] = some y3 at h3
  obtain ⟨aC, cC, bs, rfl, hC⟩ := open_bytesC Try.underlying22 Try.underlying5 h0
  obtain ⟨aR, cR, l, rv, rfl, hR, hRl, hRr⟩ := open_rowsC Try.underlying23 Try.underlying22 Try.underlying5 (by kernel_rfl) h1
  obtain ⟨aE, cE, es, rfl, hE, hE0, hEw⟩ := open_entsC Try.underlying24 Try.underlying60 Try.underlying3 Try.underlying3 Try.underlying3 Try.underlying3 rfl rfl rfl rfl (by kernel_rfl) (by kernel_rfl) (by kernel_rfl) (by kernel_rfl) (by kernel_rfl) h2
  obtain ⟨z, e0, _, hw⟩ := DataW.trod_int Try.underlying5 h3
  obtain ⟨k, rfl, hk⟩ := wf_u8 hw
  injection e0 with e0
  subst e0
  have e1 : ((UInt8.ofNat k).toNat : Int) = k := by simp; omega
  refine ⟨⟨bs, l, es, UInt8.ofNat k⟩, aC, aR, aE, rv, cC, cR, cE, rfl, rfl, rfl, ?_, ⟨hC, hR, hRl, hRr, hE⟩, hEw, hE0⟩
  rw [e1]
set_option maxRecDepth 100000 in
theorem open_plan15 {W : World} {base : Nat} {v : Value} {d : DataW H} {pl : List MemPlace} (hv : Value.okWide Try.prog W .any base 29 v) (h : DataW.Trod enc Try.prog W 0 (fun _ => true) true 29 v d pl) :
    ∃ (p : PlanL) (aC aR aE : Option Addr) (rv : List Value) (cC cR cE : Nat) (aS : Option Addr) (cS : Nat) (subs : List (List Nat)) (sv : List Value), v = .agg #[.slice aC p.cls.length cC, .slice aR p.rows.length cR, .slice aE p.ents.length cE, .int .u8 (p.wide.toNat : Nat), .slice aS subs.length cS] ∧ PlanHas W p aC aR rv aE ∧ (∀ e ∈ p.ents, wfI e.1 ∧ wfI e.2.1 ∧ wfI e.2.2.1 ∧ wfI e.2.2.2) ∧ (aE = none → cE = 0) ∧ SubsHas W aS subs sv ∧ (∀ r ∈ subs, ∀ x ∈ r, x ≤ 65535) ∧ subs.length ≤ maxLen := by
  obtain ⟨cs, rfl, hsz⟩ := okWide_struct Try.underlying29 hv
  have h5 : Try.prog.cellsOf 29 = 5 := by kernel_rfl
  obtain ⟨v0, v1, v2, v3, v4, rfl⟩ := array5 (hsz.trans h5)
  obtain ⟨fuel, hf⟩ := h
  obtain ⟨y0, y1, n, _, _, h0, h1⟩ := trod_struct2 Try.underlying29 hf
  change DataW.trod enc Try.prog W 0 (fun _ => true) true n 26 [v0, v1, v2, v3] = some y0 at h0
  change DataW.trod enc Try.prog W 0 (fun _ => true) true n 27 [v4] = some y1 at h1
  obtain ⟨p, aC, aR, aE, rv, cC, cR, cE, rfl, rfl, rfl, rfl, hP, hw, hE⟩ := open_planCells h0
  obtain ⟨aS, cS, subs, sv, rfl, hS, h16, hm⟩ := open_rows16C Try.underlying27 Try.underlying62 Try.underlying63 (by kernel_rfl) h1
  exact ⟨p, aC, aR, aE, rv, cC, cR, cE, aS, cS, subs, sv, rfl, hP, hw, hE, hS, h16, hm⟩
end

open Go.RowKit Go.Lib
def Sm15 (subs : List (List Nat)) (nC nR nE nS nI : Nat) : Prop := (∀ r ∈ subs, r.length ≤ 60) ∧ nC ≤ 40 ∧ nR ≤ 20 ∧ nE ≤ 40 ∧ nS ≤ 20 ∧ nI ≤ 60
set_option maxRecDepth 100000 in
set_option maxHeartbeats 3200000 in
theorem small15_any (aC aR aE aI aS : Option Addr) (nC nR nE nI nS cC cR cE cI cS : Nat) (y : Int) (subs : List (List Nat)) (sv : List Value) (w : World) (hS : SubsHas w aS subs sv) (hn : subs.length = nS) (hnm : nS ≤ 9223372036854775807) :
    Calls Try.prog 13 #[.agg #[.slice aC nC cC, .slice aR nR cR, .slice aE nE cE, .int .u8 y, .slice aS nS cS], .slice aI nI cI] w fun e w' => (∃ b : Bool, e = .returned (.bool b) ∧ (b = true ↔ Sm15 subs nC nR nE nS nI)) ∧ Below w.heap.size w w' := by
  have hAC := allocC
  have hAF := allocF
  have HS := Lib.hid hS
  have HN := Lib.hid hn
  clear hS hn
  go_enter Try.func13, Try.ntmps13
  go_wp2_with fail
  obtain ⟨W, hW⟩ : ∃ W, W = w.alloc (Obj.cells #[.slice aC nC cC, .slice aR nR cR, .slice aE nE cE, .int .u8 y, .slice aS nS cS] 29) := ⟨_, rfl⟩
  have hbW : Below w.heap.size w W := by rw [hW]; exact balloc (brefl w) _
  have x2 : W.heap[w.heap.size]? = some (.cells #[.slice aC nC cC, .slice aR nR cR, .slice aE nE cE, .int .u8 y, .slice aS nS cS] 29 (0, 0)) := by rw [hW]; exact (heap_push _ _ _).trans (if_pos rfl)
  rw [← hW]
  have X2 := Lib.hid x2
  have HBW := Lib.hid hbW
  clear hW x2 hbW
  go_loopw [10] (fun i wr => ∃ j : Nat, j ≤ nS ∧ i = .int .i64 (j : Nat) ∧ (∀ k r, k < j → subs[k]? = some r → r.length ≤ 60) ∧ Below W.heap.size W wr) (fun i _ => nS - (Go.RowKit.intOf i).toNat)
  case atStart => exact ⟨0, Nat.zero_le _, rfl, fun k r hk => by omega, Below.refl _ _⟩
  case round =>
    obtain ⟨j, hj, rfl, hall, hb⟩ := hrel
    rename World => wr
    have x2 := (hb.block _ (Array.getElem?_eq_some_iff.1 X2.out).1).trans X2.out
    have q2 := fun o => cell_of_heap x2 o
    have l2 := (Array.getElem?_eq_some_iff.1 x2).1
    have HB := Lib.hid (HBW.out.trans (hb.mono HBW.out.size))
    have HBR := Lib.hid hb
    have HALL := Lib.hid hall
    clear x2 hall
    by_cases hlt : j < nS
    · obtain ⟨r, hr⟩ : ∃ r, subs[j]? = some r := ⟨_, List.getElem?_eq_getElem (by rw [HN.out]; exact hlt)⟩
      obtain ⟨ai, ci, hv, _⟩ := HS.out.each j r hr
      obtain ⟨bR, oR, hbR, hblR, hcell⟩ := (HS.out.has.below HB.out).get (by rw [HS.out.len, HN.out]; omega)
      have e0 := hcell j _ hv
      have HR := Lib.hid hr
      subst hbR
      clear hcell hv hr hb
      by_cases h60 : 60 < r.length
      · have HNO := Lib.hid (show ¬ Sm15 subs nC nR nE nS nI from fun h => by have := h.1 r (List.mem_of_getElem? HR.out); omega)
        have d1 : decide (60 < (r.length : Int)) = true := by simp; omega
        generalize r.length = rl at *
        clear h60
        go_wp2_with fail
        go_ret
        exact ⟨⟨false, rfl, by simp [HNO.out]⟩, HB.out⟩
      · have HLE := Lib.hid (show r.length ≤ 60 by omega)
        have d1 : decide (60 < (r.length : Int)) = false := by simp; omega
        generalize hrl : r.length = rl at *
        have HRL := Lib.hid hrl
        clear h60 hrl
        go_wp2_with fail
        go_roundw
        case rel => exact ⟨j + 1, hlt, by go_num, fun k x hk hx => by
          by_cases e : k = j
          · subst e
            rw [HR.out] at hx
            cases hx
            rw [HRL.out]; exact HLE.out
          · exact HALL.out k x (by omega) hx, HBR.out⟩
        case measure => simp [Go.RowKit.intOf]; omega
    · obtain rfl : nS = j := by omega
      have hsub : ∀ r ∈ subs, r.length ≤ 60 := fun r hr => by
        obtain ⟨k, hk⟩ := List.mem_iff_getElem?.1 hr
        exact HALL.out k r (by have := (List.getElem?_eq_some_iff.1 hk).1; rw [HN.out] at this; exact this) hk
      have HSUB := Lib.hid hsub
      clear hsub hb
      by_cases h1 : nC ≤ 40
      case neg =>
        have d1 : decide ((nC : Int) ≤ 40) = false := by simp; omega
        have HNO := Lib.hid (show ¬ Sm15 subs nC nR nE nS nI from fun h => h1 h.2.1)
        clear h1
        go_wp2_with fail
        go_ret
        exact ⟨⟨false, rfl, by simp [HNO.out]⟩, HB.out⟩
      have d1 : decide ((nC : Int) ≤ 40) = true := by simp; omega
      by_cases h2 : nR ≤ 20
      case neg =>
        have d2 : decide ((nR : Int) ≤ 20) = false := by simp; omega
        have HNO := Lib.hid (show ¬ Sm15 subs nC nR nE nS nI from fun h => h2 h.2.2.1)
        clear h1 h2
        go_wp2_with fail
        go_ret
        exact ⟨⟨false, rfl, by simp [HNO.out]⟩, HB.out⟩
      have d2 : decide ((nR : Int) ≤ 20) = true := by simp; omega
      by_cases h3 : nE ≤ 40
      case neg =>
        have d3 : decide ((nE : Int) ≤ 40) = false := by simp; omega
        have HNO := Lib.hid (show ¬ Sm15 subs nC nR nE nS nI from fun h => h3 h.2.2.2.1)
        clear h1 h2 h3
        go_wp2_with fail
        go_ret
        exact ⟨⟨false, rfl, by simp [HNO.out]⟩, HB.out⟩
      have d3 : decide ((nE : Int) ≤ 40) = true := by simp; omega
      by_cases h4 : nS ≤ 20
      case neg =>
        have d4 : decide ((nS : Int) ≤ 20) = false := by simp; omega
        have HNO := Lib.hid (show ¬ Sm15 subs nC nR nE nS nI from fun h => h4 h.2.2.2.2.1)
        clear h1 h2 h3 h4
        go_wp2_with fail
        go_ret
        exact ⟨⟨false, rfl, by simp [HNO.out]⟩, HB.out⟩
      have d4 : decide ((nS : Int) ≤ 20) = true := by simp; omega
      by_cases h5 : nI ≤ 60
      case neg =>
        have d5 : decide ((nI : Int) ≤ 60) = false := by simp; omega
        have HNO := Lib.hid (show ¬ Sm15 subs nC nR nE nS nI from fun h => h5 h.2.2.2.2.2)
        clear h1 h2 h3 h4 h5
        go_wp2_with fail
        go_ret
        exact ⟨⟨false, rfl, by simp [HNO.out]⟩, HB.out⟩
      have d5 : decide ((nI : Int) ≤ 60) = true := by simp; omega
      have HYES := Lib.hid (show Sm15 subs nC nR nE nS nI from ⟨HSUB.out, h1, h2, h3, h4, h5⟩)
      clear h1 h2 h3 h4 h5
      go_wp2_with fail
      go_ret
      exact ⟨⟨true, rfl, by simp [HYES.out]⟩, HB.out⟩
end Go.Proofs.Ytcegoenlajkgfaa
end
