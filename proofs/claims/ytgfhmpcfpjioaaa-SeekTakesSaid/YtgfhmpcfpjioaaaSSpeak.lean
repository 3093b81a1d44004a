
/- swashlaw05.speaks returns true. No condition. -/
import Derived.Test.YtgfhmpcfpjioaaaSRead
import Derived.Test.YtgfhmpcfpjioaaaSPlace
namespace Go.Proofs.Ytgfhmpcfpjioaaa
open Go.RowKit

def two16 : List UInt8 := [0, 2, 0, 3, 0, 0, 0, 0, 0, 0, 0, 7, 0, 9, 255, 255]
theorem two16_ok : skOk two16 0 2 ∧ skM two16 0 1 = 2 ∧ skS two16 0 = 2 ∧ rowB two16 (0 + 10 + 1 * 2) 2 = [0, 9] := by
  refine ⟨⟨by decide, by decide, by decide⟩, by decide, by decide, by decide⟩
theorem sread_two (a : Option Addr) (c : Nat) (w : World) (h : Has w a (bytesV two16)) (hn : 16 ≤ c) (hc : c ≤ maxLen) :
    Calls Try.prog 15 #[.slice a 16 c, .int .i64 0, .int .i64 2, .int .i64 1] w fun e w' => ∃ g a1 c1, e = .returned (.tuple #[.slice (some ⟨g, 0, none⟩) 2 2, .int .i64 0]) ∧ w'.cell? ⟨g, 1, none⟩ = some (.slice a1 2 c1) ∧ Has w' a1 (bytesV [0, 9]) ∧ Below w.heap.size w w' ∧ g < w'.heap.size := by
  obtain ⟨h1, h2, h3, h4⟩ := two16_ok
  refine (sread_any a 16 c two16 0 2 1 w h rfl hn hc (by omega) (by omega) (by omega)).mono ?_
  rintro e w' ⟨(⟨hb, _⟩ | ⟨_, hno, _⟩ | ⟨_, j, g, vs, hj, hok, he, ho, hr⟩), hb⟩
  · rcases hb with h | h | h <;> omega
  · exact absurd h1 (hno 0 rfl)
  · obtain rfl : j = 0 := by omega
    have e1 : skM two16 0 (1 : Int).toNat = 2 := h2
    rw [e1] at he ho
    rw [h3] at hr
    have hl : vs.length = 2 := ho.1
    obtain ⟨a1, c1, hv, ho1, _, _⟩ := hr 1 _ (List.getElem?_eq_getElem (by omega))
    rw [h4] at ho1
    exact ⟨g, a1, c1, he, (ho.cellAt 1 (by omega)).trans ((List.getElem?_eq_getElem (by omega)).trans (by rw [hv])), has_of_owns ho1, hb, (ho.lt g rfl).2⟩
theorem place_five (a : Option Addr) (c : Nat) (w : World) (h : Has w a (intsV [2, 5, 9])) (hn : 3 ≤ c) (hc : c ≤ maxLen) :
    Calls Try.prog 20 #[.slice a 3 c, .int .i64 5] w fun e w' => e = .returned (.tuple #[.int .i64 1, .bool true]) ∧ Below w.heap.size w w' := by
  refine (place_any a 3 c [2, 5, 9] 5 w h rfl hn hc (fun i j h1 h2 => by
    have hi : i = 0 ∨ i = 1 := by omega
    have hj : j = 1 ∨ j = 2 := by omega
    rcases hi with rfl | rfl <;> rcases hj with rfl | rfl <;> first | decide | omega)).mono ?_
  rintro e w' ⟨(⟨i, hi, hx, he⟩ | ⟨hno, _⟩), hb⟩
  · match i, hi with
    | 0, _ => simp at hx
    | 1, _ => exact ⟨he, hb⟩
    | 2, _ => simp at hx
  · exact absurd rfl (hno 1 (by decide))

set_option maxRecDepth 100000 in
set_option maxHeartbeats 1600000 in
theorem speaks5_any (w : World) : Calls Try.prog 14 #[] w fun e w' => e = .returned (.bool true) ∧ Below w.heap.size w w' := by
  have hAC := allocC
  have hAF := allocF
  have H3 := Lib.hid (show ∀ W : World, Has (W.alloc (.cells #[.int .i64 2, .int .i64 5, .int .i64 9] 3)) (some ⟨W.heap.size, 0, none⟩) (intsV [2, 5, 9]) from fun W => has_alloc W _ _)
  go_enter Try.func14, Try.ntmps14
  go_wp2_with fail
  refine (sread_two _ _ _ (has_alloc _ _ _) (by decide) (by decide)).mono ?_
  rintro e w1 ⟨g, a1, c1, rfl, hc1, hh1, hb1, hg1⟩
  have hz1 := hb1.size
  simp only [World.size_alloc] at hz1
  have HH1 := Lib.hid hh1
  have HB1 := Lib.hid (show Below w.heap.size w w1 from (by repeat (first | exact brefl _ | assumption | refine balloc ?_ _ | refine bdrew ?_ _ | refine bdrew1 ?_ | refine bthen ?_ (by assumption) | refine Below.trans ?_ (by assumption) | (refine bset ?_ (by first | (simp; done) | (simp; omega)) _))))
  clear hh1 hb1
  go_wp2_with (first | (go_at_call 20; (with_reducible refine (place_five _ _ _ (H3.out _) (by decide) (by decide)).mono ?_); rintro e w2 ⟨rfl, hb2⟩; have h2c := bc hb2; have h2f := bf hb2; have h2z := hb2.size; (try simp only [World.size_alloc] at h2z); have hs := run_str (P := Try.prog) (w := w2) Try.underlying22 Try.underlying5 Try.underlying9 (c := c1) (n := 2) (bs := [0, 9]) (HH1.out.below (by repeat (first | exact brefl _ | assumption | refine balloc ?_ _ | refine bdrew ?_ _ | refine bdrew1 ?_ | refine bthen ?_ (by assumption) | refine Below.trans ?_ (by assumption) | (refine bset ?_ (by first | (simp; done) | (simp; omega)) _)))) rfl; have hsl : ((str [0, 9]).toList == [0, 9]) = true := by rw [str_toList]; rfl))
  go_ret
  exact ⟨rfl, HB1.out.trans (Below.mono (show Below w1.heap.size w1 _ from (by repeat (first | exact brefl _ | assumption | refine balloc ?_ _ | refine bdrew ?_ _ | refine bdrew1 ?_ | refine bthen ?_ (by assumption) | refine Below.trans ?_ (by assumption) | (refine bset ?_ (by first | (simp; done) | (simp; omega)) _)))) (by omega))⟩
end Go.Proofs.Ytgfhmpcfpjioaaa
