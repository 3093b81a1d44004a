
/- What an argument that is a list of parts is. No condition. -/
import Derived.Test.YtginpjkojfdcoaaFrame
import Derived.Test.YtginpjkojfdcoaaPart
namespace Go.Proofs.Ytginpjkojfdcoaa
open Go.ChangeShapes Go.WideShapes Go.ChangeAt Go.RowKit
section
variable {H : Type} {enc : TypeId × Value → H}
/-- Bytes that lie in a cell. -/
theorem open_bytes_cell {P : Program} {W : World} {t e : TypeId} {m : Nat} {cs : List Value} {y : DataW H × List MemPlace} (ht : P.underlying t = some (.slice e)) (he : P.underlying e = some (.int .u8)) (hC : P.cellsOf e = 1)
    (h : DataW.trod enc P W 0 (fun _ => true) true m t cs = some y) :
    ∃ a n c bs, cs = [.slice a n c] ∧ Has W a (bytesV bs) ∧ bs.length = n ∧ n ≤ c ∧ c ≤ maxLen ∧ (a = none → c = 0) := by
  rcases open_ints ht he hC h with ⟨rfl, _⟩ | ⟨x, n, c, zs, rfl, _, hl, hm, hz, _, hcell, hwz⟩
  · exact ⟨none, 0, 0, [], rfl, Has.nil _ _, rfl, Nat.le_refl _, Nat.zero_le _, fun _ => rfl⟩
  · simp only [if_true] at hz
    refine ⟨some x, n, c, (zs.take n).map fun z => UInt8.ofNat z.toNat, rfl, ?_, by simp; omega, hl, hm, fun h => by cases h⟩
    intro j u hu
    refine ⟨x, rfl, ?_⟩
    have hj : j < n := by
      rcases Nat.lt_or_ge j n with g | g
      · exact g
      · rw [List.getElem?_eq_none (by rw [bytesV_length]; simp; omega)] at hu; cases hu
    rw [hcell j (by omega), ← hu]
    have hw := hwz zs[j] (List.getElem_mem (by omega))
    have hb := bounds_u8 hw
    simp only [bytesV, List.map_map, List.getElem?_map, List.getElem?_take, if_pos hj, List.getElem?_eq_getElem (show j < zs.length by omega), Option.map_some, List.getD_eq_getElem?_getD, Option.getD_some, Function.comp_apply, Option.some.injEq, Value.int.injEq, true_and]
    simp only [UInt8.toNat_ofNat']
    omega
set_option maxRecDepth 100000 in
theorem part_of {W : World} {m : Nat} {x : List Value} {y : DataW H × List MemPlace} (h : DataW.trod enc Try.prog W 0 (fun _ => true) true m 27 x = some y) :
    ∃ p : PartV, x = p.enc ∧ Has W p.a (bytesV p.bs) ∧ p.bs.length = p.n ∧ p.n ≤ p.c ∧ p.c ≤ maxLen ∧ (p.a = none → p.c = 0) := by
  obtain ⟨y0, y1, k, _, hl, h0, h1⟩ := trod_struct2 Try.underlying27 h
  have hl2 : x.length = 2 := hl.trans (by kernel_rfl)
  match x, hl2 with
  | [u, v], _ =>
    obtain ⟨s, hs, _, _⟩ := DataW.trod_string (P := Try.prog) Try.underlying9 h0
    obtain ⟨a, n, c, bs, hb, h2, h3, h4, h5, h6⟩ := open_bytes_cell Try.underlying25 Try.underlying5 (by kernel_rfl) h1
    have e0 : u = .string s := by
      have : ([u, v].drop 0).take 1 = [.string s] := hs
      simpa using this
    have e1 : v = .slice a n c := by
      have : ([u, v].drop 1).take 1 = [.slice a n c] := hb
      simpa using this
    exact ⟨⟨s, a, n, c, bs⟩, by rw [e0, e1]; rfl, h2, h3, h4, h5, h6⟩
set_option maxRecDepth 100000 in
theorem open_parts {W : World} {base : Nat} {v : Value} {d : DataW H} {pl : List MemPlace} (hv : Value.okWide Try.prog W .any base 22 v) (h : DataW.Trod enc Try.prog W 0 (fun _ => true) true 22 v d pl) :
    ∃ (a : Option Addr) (n c : Nat) (ps : List PartV), v = .slice a n c ∧ Has W a (encAll ps) ∧ ps.length = n ∧ n ≤ c ∧ c ≤ maxLen ∧ (a = none → c = 0) ∧ ∀ p ∈ ps, Has W p.a (bytesV p.bs) ∧ p.bs.length = p.n ∧ p.n ≤ p.c ∧ p.c ≤ maxLen ∧ (p.a = none → p.c = 0) := by
  obtain ⟨a, n, c, us, rfl, hl, hn, hc, hA, hh, hx⟩ := open_rows Try.underlying22 hv h
  have hp : ∀ x ∈ us, ∃ p : PartV, x = p.enc ∧ Has W p.a (bytesV p.bs) ∧ p.bs.length = p.n ∧ p.n ≤ p.c ∧ p.c ≤ maxLen ∧ (p.a = none → p.c = 0) := fun x hxm => by
    obtain ⟨_, m, y, hy⟩ := hx x hxm
    exact part_of hy
  have hps : ∃ ps : List PartV, us = ps.map PartV.enc ∧ ∀ p ∈ ps, Has W p.a (bytesV p.bs) ∧ p.bs.length = p.n ∧ p.n ≤ p.c ∧ p.c ≤ maxLen ∧ (p.a = none → p.c = 0) := by
    clear hh hl hx
    induction us with
    | nil => exact ⟨[], rfl, fun p h => by cases h⟩
    | cons x us ih =>
      obtain ⟨p, rfl, hp0⟩ := hp x (by simp)
      obtain ⟨ps, rfl, hps⟩ := ih (fun y hy => hp y (by simp [hy]))
      exact ⟨p :: ps, rfl, fun q hq => by
        rcases List.mem_cons.1 hq with rfl | hq
        · exact hp0
        · exact hps q hq⟩
  obtain ⟨ps, rfl, hps⟩ := hps
  refine ⟨a, n, c, ps, rfl, ?_, by simpa using hl, hn, hc, hA, hps⟩
  rw [encAll, List.flatMap_def]
  exact hh
end
end Go.Proofs.Ytginpjkojfdcoaa
