
/- swashlaw04.speaks returns true. No condition. -/
import Derived.Test.YthacabmnnpibkaaWFont
namespace Go.Proofs.Ythacabmnnpibkaa
open Go.RowKit Go.Lib

theorem adv_rows (vs : List Nat) (f : Nat → Nat) (n g i : Nat) (Z : List UInt8) (hn : 1 ≤ n) (hi : i < g) (hv : ∀ s ∈ vs, s ≤ 65535) (hl : vs.length = n) (hf : ∀ j, j < n → f j ≤ 65535) :
    advOf g n (rowsF vs f n ++ Z) (i : Nat) = vs.getD (min i (n - 1)) 0 := by
  unfold advOf
  rw [if_pos ⟨by omega, by omega⟩]
  have hq : min i (n - 1) < n := by omega
  exact (rowsF_num vs f n _ Z hq (hv _ (by rw [List.getD_eq_getElem?_getD, List.getElem?_eq_getElem (by omega)]; exact List.getElem_mem _)) (hf _ hq)).1
theorem adv_out (g m : Nat) (T : List UInt8) (id : Int) (h : ¬ (0 ≤ id ∧ id < (g : Nat))) : advOf g m T id = 0 := by unfold advOf; rw [if_neg h]
theorem bea_rows (vs : List Nat) (f : Nat → Nat) (n g i : Nat) (Z : List UInt8) (hi : i < n) (hg : n ≤ g) (hv : ∀ s ∈ vs, s ≤ 65535) (hl : vs.length = n) (hf : f i < 32768) :
    beaOf g n (rowsF vs f n ++ Z) (i : Nat) = (f i : Nat) := by
  unfold beaOf
  rw [if_pos ⟨by omega, by omega⟩]
  show (if i < n then s16 (num _ (4 * i + 2) 2) else _) = _
  rw [if_pos hi, (rowsF_num vs f n i Z hi (hv _ (by rw [List.getD_eq_getElem?_getD, List.getElem?_eq_getElem (by omega)]; exact List.getElem_mem _)) (by omega)).2]
  unfold s16
  rw [if_neg (by omega)]

set_option maxRecDepth 100000 in
set_option maxHeartbeats 3200000 in
theorem speaks_width (w : World) : Calls Try.prog 13 #[] w fun r w' => r = .returned (.bool true) ∧ Below w.heap.size w w' := by
  have hAC := allocC
  have hv2 : ∀ s ∈ [500, 600], s ≤ 65535 := by decide
  have HF := Lib.hid (fun W (h : Has W (some ⟨w.heap.size, 0, none⟩) (u16V [500, 600])) => font_any (some ⟨w.heap.size, 0, none⟩) 2 2 1 [500, 600] W h rfl (by decide) (by decide) hv2 (by decide) (by decide) (by decide))
  have HU := Lib.hid (show Has (w.alloc (.cells #[.int .u16 500, .int .u16 600] 35)) (some ⟨w.heap.size, 0, none⟩) (u16V [500, 600]) from has_alloc _ _ _)
  clear hv2
  go_enter Try.func13, Try.ntmps13
  go_wp2_with fail
  refine (HF.out _ HU.out).mono ?_
  rintro r w1 ⟨a1, n1, c1, F, rfl, hF, hFl, k1, k2, k3, k4, hP, hb1⟩
  have HR := Lib.hid (wread_four a1 n1 c1 F 3 1000 2 _ w1 (has_of_owns hF) hFl k1 k2 hP (by decide) (by decide) (by decide))
  have HB1 := Lib.hid (show Below w.heap.size w w1 from (balloc (brefl w) _).trans (hb1.mono (by simp)))
  clear HF HU hF hFl k3 hP hb1
  go_wp2_with fail
  refine HR.out.mono ?_
  rintro r w2 ⟨gw, rfl, hd, hgw, hb2⟩
  have HA0 := Lib.hid (fun W (hb : Below w2.heap.size w2 W) => adv_any w1.heap.size gw 3 1000 2 (rowsF [500, 600] id 2 ++ List.replicate (2 * 1) 0) 0 W (hd.below hb) (by decide) (by decide) (by decide) (by decide))
  have HA2 := Lib.hid (fun W (hb : Below w2.heap.size w2 W) => adv_any w1.heap.size gw 3 1000 2 (rowsF [500, 600] id 2 ++ List.replicate (2 * 1) 0) 2 W (hd.below hb) (by decide) (by decide) (by decide) (by decide))
  have HA3 := Lib.hid (fun W (hb : Below w2.heap.size w2 W) => adv_any w1.heap.size gw 3 1000 2 (rowsF [500, 600] id 2 ++ List.replicate (2 * 1) 0) 3 W (hd.below hb) (by decide) (by decide) (by decide) (by decide))
  have HBE := Lib.hid (fun W (hb : Below w2.heap.size w2 W) => bea_any w1.heap.size gw 3 1000 2 (rowsF [500, 600] id 2 ++ List.replicate (2 * 1) 0) 1 W (hd.below hb) (by decide) (by decide) (by decide) (by decide))
  rw [show advOf 3 2 (rowsF [500, 600] id 2 ++ List.replicate (2 * 1) 0) 0 = 500 by decide] at HA0
  rw [show advOf 3 2 (rowsF [500, 600] id 2 ++ List.replicate (2 * 1) 0) 2 = 600 by decide] at HA2
  rw [show advOf 3 2 (rowsF [500, 600] id 2 ++ List.replicate (2 * 1) 0) 3 = 0 by decide] at HA3
  rw [show beaOf 3 2 (rowsF [500, 600] id 2 ++ List.replicate (2 * 1) 0) 1 = 1 by decide] at HBE
  obtain ⟨s1, e1, s2, e2, h0, _⟩ := hd
  have HFA := Lib.hid (fun W (hb : Below w2.heap.size w2 W) => wface_any gw 3 1000 2 _ _ W ((hb.block gw (Array.getElem?_eq_some_iff.1 h0).1).trans h0))
  have HB2 := Lib.hid (HB1.out.trans (hb2.mono HB1.out.size))
  have hz2 := HB2.out.size
  unfold faceV at HFA
  clear HR h0 hb2
  go_wp2_with (first
    | (go_at_call 16; (with_reducible refine (HA0.out _ (by exact (by repeat (first | exact brefl _ | assumption | refine balloc ?_ _ | refine bdrew ?_ _ | refine bdrew1 ?_ | refine bthen ?_ (by assumption) | refine Below.trans ?_ (by assumption) | (refine bset ?_ (by first | (simp; done) | (simp; omega)) _))))).mono ?_); rintro e w3 ⟨rfl, hb3⟩; have h3c := bc hb3; have h3f := bf hb3; have h3z := hb3.size; try simp only [World.size_alloc, World.size_drew] at h3z)
    | (go_at_call 16; (with_reducible refine (HA2.out _ (by exact (by repeat (first | exact brefl _ | assumption | refine balloc ?_ _ | refine bdrew ?_ _ | refine bdrew1 ?_ | refine bthen ?_ (by assumption) | refine Below.trans ?_ (by assumption) | (refine bset ?_ (by first | (simp; done) | (simp; omega)) _))))).mono ?_); rintro e w4 ⟨rfl, hb4⟩; have h4c := bc hb4; have h4f := bf hb4; have h4z := hb4.size; try simp only [World.size_alloc, World.size_drew] at h4z)
    | (go_at_call 16; (with_reducible refine (HA3.out _ (by exact (by repeat (first | exact brefl _ | assumption | refine balloc ?_ _ | refine bdrew ?_ _ | refine bdrew1 ?_ | refine bthen ?_ (by assumption) | refine Below.trans ?_ (by assumption) | (refine bset ?_ (by first | (simp; done) | (simp; omega)) _))))).mono ?_); rintro e w5 ⟨rfl, hb5⟩; have h5c := bc hb5; have h5f := bf hb5; have h5z := hb5.size; try simp only [World.size_alloc, World.size_drew] at h5z)
    | (go_at_call 17; (with_reducible refine (HBE.out _ (by exact (by repeat (first | exact brefl _ | assumption | refine balloc ?_ _ | refine bdrew ?_ _ | refine bdrew1 ?_ | refine bthen ?_ (by assumption) | refine Below.trans ?_ (by assumption) | (refine bset ?_ (by first | (simp; done) | (simp; omega)) _))))).mono ?_); rintro e w_ ⟨rfl, rfl⟩)
    | (go_at_call 20; (with_reducible refine (HFA.out _ (by exact (by repeat (first | exact brefl _ | assumption | refine balloc ?_ _ | refine bdrew ?_ _ | refine bdrew1 ?_ | refine bthen ?_ (by assumption) | refine Below.trans ?_ (by assumption) | (refine bset ?_ (by first | (simp; done) | (simp; omega)) _))))).mono ?_); rintro e w6 ⟨rfl, hb6⟩; have h6c := bc hb6; have h6f := bf hb6; have h6z := hb6.size; try simp only [World.size_alloc, World.size_drew] at h6z))
  go_ret
  exact ⟨rfl, HB2.out.trans (Below.mono (show Below w2.heap.size w2 _ from (by repeat (first | exact brefl _ | assumption | refine balloc ?_ _ | refine bdrew ?_ _ | refine bdrew1 ?_ | refine bthen ?_ (by assumption) | refine Below.trans ?_ (by assumption) | (refine bset ?_ (by first | (simp; done) | (simp; omega)) _)))) hz2)⟩
end Go.Proofs.Ythacabmnnpibkaa
