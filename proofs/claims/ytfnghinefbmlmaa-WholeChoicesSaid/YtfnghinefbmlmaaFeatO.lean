
/- What an argument that is a list of features to be written is. No condition. -/
import Derived.ChangeSame
import Derived.Deep.Strs
import Derived.Test.YtfnghinefbmlmaaFeatX
import Derived.Test.YtfnghinefbmlmaaFrame
namespace Go.Proofs.Ytfnghinefbmlmaa
open Go.ChangeShapes Go.WideShapes Go.ChangeAt Go.RowKit
section
variable {H : Type} {enc : TypeId × Value → H}
theorem open_n16 {P : Program} {W : World} {t e : TypeId} {f : Nat} {v : Value} {y : DataW H × List MemPlace} (ht : P.underlying t = some (.slice e)) (he : P.underlying e = some (.int .u16))
    (h : DataW.trod enc P W 0 (fun _ => true) true f t [v] = some y) : ∃ (a : Option Addr) (c : Nat) (ss : List Nat), v = .slice a ss.length c ∧ Has W a (n16V ss) ∧ ∀ s ∈ ss, s ≤ 65535 := by
  obtain ⟨a, n, c, us, rfl, hl, _, _, _, hh, hx⟩ := open_rows_cell ht h
  have key : ∀ us : List (List Value), (∀ x ∈ us, ∃ m y, DataW.trod enc P W 0 (fun _ => true) true m e x = some y) → ∃ ss : List Nat, ss.length = us.length ∧ us.flatten = n16V ss ∧ ∀ s ∈ ss, s ≤ 65535 := by
    intro us
    induction us with
    | nil => exact fun _ => ⟨[], rfl, rfl, fun s hs => by cases hs⟩
    | cons x us ih =>
      intro h
      obtain ⟨ss, h1, h2, h3⟩ := ih (fun y hy => h y (by simp [hy]))
      obtain ⟨m, y, hy⟩ := h x (by simp)
      obtain ⟨z, rfl, _, hw⟩ := DataW.trod_int he hy
      obtain ⟨k, rfl, hk⟩ := wf_u16 hw
      exact ⟨k :: ss, by simp [h1], by simp [h2, n16V], fun s hs => by
        rcases List.mem_cons.1 hs with rfl | hs
        · exact hk
        · exact h3 s hs⟩
  obtain ⟨ss, h1, h2, h3⟩ := key us (fun x hx' => (hx x hx').2)
  exact ⟨a, c, ss, by rw [h1, hl], h2 ▸ hh, h3⟩
set_option maxRecDepth 100000 in
theorem open_plan8 {W : World} {m : Nat} {x : List Value} {y : DataW H × List MemPlace} (h : DataW.trod enc Try.prog W 0 (fun _ => true) true m 27 x = some y) :
    ∃ p : PlanF, x = p.enc ∧ p.ty ≤ 65535 ∧ p.fl ≤ 65535 ∧ (∀ s ∈ p.ss, s ≤ 65535) ∧ Has W p.a (n16V p.ss) := by
  obtain ⟨y0, y1, y2, k, _, hl, h0, h1, h2⟩ := Go.Deep.trod_struct3 Try.underlying27 h
  have hl3 : x.length = 3 := hl.trans (by kernel_rfl)
  match x, hl3 with
  | [u, v, t], _ =>
    obtain ⟨z0, e0, _, w0⟩ := DataW.trod_int Try.underlying24 h0
    obtain ⟨z1, e1, _, w1⟩ := DataW.trod_int Try.underlying24 h1
    obtain ⟨k0, rfl, b0⟩ := wf_u16 w0
    obtain ⟨k1, rfl, b1⟩ := wf_u16 w1
    obtain ⟨a, c, ss, e2, hh, hs⟩ := open_n16 Try.underlying25 Try.underlying24 (show DataW.trod enc Try.prog W 0 (fun _ => true) true k 25 [t] = some y2 from h2)
    have f0 : u = .int .u16 (k0 : Nat) := by
      have : ([u, v, t].drop 0).take 1 = [Value.int .u16 (k0 : Nat)] := e0
      simpa using this
    have f1 : v = .int .u16 (k1 : Nat) := by
      have : ([u, v, t].drop 1).take 1 = [Value.int .u16 (k1 : Nat)] := e1
      simpa using this
    exact ⟨⟨k0, k1, a, c, ss⟩, by rw [f0, f1, e2]; rfl, b0, b1, hs, hh⟩
set_option maxRecDepth 100000 in
theorem open_plans8 {W : World} {base : Nat} {v : Value} {d : DataW H} {pl : List MemPlace} (hv : Value.okWide Try.prog W .any base 22 v) (h : DataW.Trod enc Try.prog W 0 (fun _ => true) true 22 v d pl) :
    ∃ (a : Option Addr) (n c : Nat) (ps : List PlanF), v = .slice a n c ∧ Has W a (plansF ps) ∧ ps.length = n ∧ n ≤ c ∧ c ≤ maxLen ∧ ∀ p ∈ ps, p.ty ≤ 65535 ∧ p.fl ≤ 65535 ∧ (∀ s ∈ p.ss, s ≤ 65535) ∧ Has W p.a (n16V p.ss) := by
  obtain ⟨a, n, c, us, rfl, hl, hn, hc, hA, hh, hx⟩ := open_rows Try.underlying22 hv h
  have hps : ∀ us : List (List Value), (∀ x ∈ us, ∃ m y, DataW.trod enc Try.prog W 0 (fun _ => true) true m 27 x = some y) → ∃ ps : List PlanF, us = ps.map PlanF.enc ∧ ∀ p ∈ ps, p.ty ≤ 65535 ∧ p.fl ≤ 65535 ∧ (∀ s ∈ p.ss, s ≤ 65535) ∧ Has W p.a (n16V p.ss) := by
    intro us
    induction us with
    | nil => exact fun _ => ⟨[], rfl, fun p h => by cases h⟩
    | cons x us ih =>
      intro h
      obtain ⟨m, y, hy⟩ := h x (by simp)
      obtain ⟨p, rfl, hp0⟩ := open_plan8 hy
      obtain ⟨ps, rfl, hps⟩ := ih (fun y hy => h y (by simp [hy]))
      exact ⟨p :: ps, rfl, fun q hq => by
        rcases List.mem_cons.1 hq with rfl | hq
        · exact hp0
        · exact hps q hq⟩
  obtain ⟨ps, rfl, hps⟩ := hps us (fun x hx' => (hx x hx').2)
  refine ⟨a, n, c, ps, rfl, ?_, by simpa using hl, hn, hc, hps⟩
  rw [plansF, List.flatMap_def]
  exact hh
end
end Go.Proofs.Ytfnghinefbmlmaa
