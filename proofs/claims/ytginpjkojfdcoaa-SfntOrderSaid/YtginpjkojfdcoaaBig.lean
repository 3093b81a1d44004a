
/- Contract of the law's 'big'. Condition: as many parts as the slice says. -/
import Derived.Test.YtginpjkojfdcoaaPart
namespace Go.Proofs.Ytginpjkojfdcoaa
open Go.RowKit

def BigRel (ps : List PartV) (w : World) (i : Value) (wr : World) : Prop := ∃ k : Nat, k ≤ ps.length ∧ i = .int .i64 (k : Nat) ∧ (∀ j p, j < k → ps[j]? = some p → p.tag.size ≤ 100 ∧ p.n ≤ 1000) ∧ Below w.heap.size w wr
set_option maxRecDepth 100000 in
set_option maxHeartbeats 800000 in
theorem big_any (a : Option Addr) (n c : Nat) (ps : List PartV) (w : World) (h : Has w a (encAll ps)) (hl : ps.length = n) (hn : n ≤ c) (hc : c ≤ maxLen) (hm : ∀ p ∈ ps, p.n ≤ maxLen) :
    Calls Try.prog 12 #[.slice a n c] w fun e w' => ∃ B, e = .returned (.bool B) ∧ (B = false → n ≤ 30 ∧ ∀ p ∈ ps, p.tag.size ≤ 100 ∧ p.n ≤ 1000) ∧ Below w.heap.size w w' := by
  have HH := Lib.hid h
  have HL := Lib.hid hl
  have HM := Lib.hid hm
  clear h hl hm
  unfold maxLen at hc
  have hAC := allocC
  have hAF := allocF
  by_cases hbig : 30 < n
  · go_enter Try.func12, Try.ntmps12
    go_wp2
    go_ret
    exact ⟨true, rfl, fun h => (by cases h), brefl _⟩
  go_enter Try.func12, Try.ntmps12
  go_wp2_with fail
  go_loopw [10] (BigRel ps w) (fun i _ => n - (intOf i).toNat)
  case atStart => exact ⟨0, Nat.zero_le _, rfl, fun j p h => by omega, Below.refl _ _⟩
  case round =>
    obtain ⟨k, hk, rfl, hfi, hbr⟩ := hrel
    rw [HL.out] at hk
    have HF := Lib.hid hfi
    have hzr := hbr.size
    have HB := Lib.hid hbr
    clear hfi
    by_cases hlt : k < n
    · obtain ⟨p, hp⟩ : ∃ p, ps[k]? = some p := ⟨_, List.getElem?_eq_getElem (by rw [HL.out]; exact hlt)⟩
      obtain ⟨g, o, rfl, hg, x0, x1⟩ := part_at HH.out hp
      have y0 := (hbr.cell (p := ⟨g, o + k * 2, none⟩) hg).trans x0
      have y1 := (hbr.cell (p := ⟨g, o + k * 2 + 1, none⟩) hg).trans x1
      have hpn : p.n ≤ 9223372036854775807 := by have := HM.out p (List.mem_of_getElem? hp); unfold maxLen at this; omega
      have HP := Lib.hid hp
      have zb := Lib.hid (HB.out.alloc hzr (Obj.cells #[.string p.tag, .slice p.a p.n p.c] 27))
      clear hbr x0 x1 hp
      by_cases ht : 100 < p.tag.size
      · have hd : decide ((100 : Int) < (p.tag.size : Nat)) = true := by simp; omega
        go_wp2
        go_ret
        exact ⟨true, rfl, fun h => (by cases h), zb.out⟩
      · by_cases hn3 : 1000 < p.n
        · go_wp2
          go_ret
          exact ⟨true, rfl, fun h => (by cases h), zb.out⟩
        · go_wp2
          go_roundw
          case rel => exact ⟨k + 1, by have := HL.out; omega, by go_num, fun j q hj hq => (by
            by_cases hjk : j < k
            · exact HF.out j q hjk hq
            · obtain rfl : j = k := (by omega)
              rw [HP.out] at hq
              cases hq
              omega), zb.out⟩
          case measure => simp [intOf]; omega
    · obtain rfl : n = k := by omega
      clear hbr
      go_wp2
      go_ret
      refine ⟨false, rfl, fun _ => ⟨by omega, fun p hp => ?_⟩, HB.out⟩
      obtain ⟨j, hj⟩ := List.getElem?_of_mem hp
      exact HF.out j p (by have := (List.getElem?_eq_some_iff.1 hj).1; have := HL.out; omega) hj
end Go.Proofs.Ytginpjkojfdcoaa
