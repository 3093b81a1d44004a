
/- PlaceOwn returns true for every advances, and changes nothing: places that are answered are apart. No condition beside the row's own. -/
import Derived.Test.YtbicnkopmamnpaaJ01
import Derived.Test.YtbicnkopmamnpaaJ05
import Derived.Test.YtbicnkopmamnpaaJ04
namespace Go.Proofs.Ytbicnkopmamnpaa
open Go.RowKit Go.Lib

set_option maxHeartbeats 3200000 in
set_option maxRecDepth 100000 in
theorem placeOwn_walk (a : Option Addr) (n c : Nat) (ids : List Int) (w : World) (h : Has w a (iv ids)) (hl : ids.length = n) :
    Calls Try.prog 9 #[.slice a n c] w fun e w' => e = .returned (.bool true) ∧ Below w.heap.size w w' := by
  have hAC := allocC
  have hAF := allocF
  have HSP := Lib.hid (fun W => speaks21_any W)
  have HH := Lib.hid h
  have HL := Lib.hid hl
  clear h hl
  by_cases hbig : 60 < n
  · have d1 : decide (60 < (n : Int)) = true := by simp; omega
    go_enter Try.func9, Try.ntmps9
    go_wp2_with (first | (go_at_call 33; (with_reducible refine (HSP.out _).mono ?_); rintro e w1 ⟨rfl, hb1⟩; have h1c := bc hb1; have h1f := bf hb1; have h1z := hb1.size; try simp only [World.size_alloc, World.size_drew] at h1z))
    go_ret
    exact ⟨rfl, blw⟩
  have d1 : decide (60 < (n : Int)) = false := by simp; omega
  go_enter Try.func9, Try.ntmps9
  go_wp2_with (first
    | (go_at_call 33; (with_reducible refine (HSP.out _).mono ?_); rintro e w1 ⟨rfl, hb1⟩; have h1c := bc hb1; have h1f := bf hb1; have h1z := hb1.size; try simp only [World.size_alloc, World.size_drew] at h1z)
    | (go_at_call 38; (with_reducible refine (pnew_any 2 a n c ids w1 (HH.out.below hb1) HL.out (by omega)).mono ?_); rintro e w3 ⟨g, a3, c3, rfl, hG, hgg, hb3⟩; have HG3 := Lib.hid hG; have HB3 := Lib.hid hb3; clear hG hb3)
    | (go_at_call 50; (with_reducible refine (pall_any _ g _ a3 c3 _ w3 HG3.out (by rw [newP_length, HL.out]; omega)).mono ?_); rintro e w4 ⟨a4, c4, rfl, ho, _, _, _, hb4⟩; rw [newP_length, HL.out] at ho; rw [newP_length, HL.out]; have HM4 := Lib.hid ho; have HG4 := Lib.hid (HG3.out.below hb4); have HB4 := Lib.hid hb4; clear ho hb4))
  have hz3 : w1.heap.size ≤ w3.heap.size := HB3.out.size
  have hz4 : w3.heap.size ≤ w4.heap.size := HB4.out.size
  have hg3 : g < w3.heap.size := (Array.getElem?_eq_some_iff.1 HG3.out.hd).1
  have HA3 := Lib.hid (fun k (hk : (Value.slice a3 (newP ids).length c3).ownBlock = some k) => HG3.out.row.lt k hk)
  have HBW := Lib.hid (hb1.trans ((HB3.out.trans (HB4.out.mono hz3)).mono h1z))
  clear HG3 HB3 HB4 h1c h1f hb1 hAC hAF HSP
  go_loopw [17] (fun i wr => ∃ j : Nat, j ≤ n ∧ i = .int .i64 (j : Nat) ∧ (∃ l' : List Pl, l'.length = n ∧ In32 l' ∧ wr.ownsRow w3.heap.size 97 3 (.slice a4 n c4) n (pv l')) ∧ PlIs w1.heap.size g (decide ((2 : Int) = 2)) a3 c3 (newP ids) wr ∧ Below w.heap.size w wr) (fun i _ => n - (Go.RowKit.intOf i).toNat)
  case atStart => exact ⟨0, Nat.zero_le _, rfl, ⟨_, by rw [newP_length, HL.out], newP_in ids, HM4.out⟩, HG4.out, HBW.out⟩
  case round =>
    obtain ⟨j, hj, rfl, ⟨l', hl', hi', ho⟩, hg, hb⟩ := hrel
    have HG5 := Lib.hid hg
    have HB5 := Lib.hid hb
    clear HG4 HM4 hg hb
    by_cases hlt : j < n
    · have hp := List.getElem?_eq_getElem (show j < l'.length by omega)
      obtain ⟨k, cs, u, rfl, hBk, hh, hc, _, hf, hs⟩ := row_at ho (j * 3 + 1) (by omega)
      have hkw := (Array.getElem?_eq_some_iff.1 hh).1
      have e2 := ho.cellAt (j * 3 + 1) (by omega)
      rw [pv_get hp 1 (by decide)] at e2
      change wr.cell? _ = some (.int .i32 (l'[j]'(by omega)).2.1) at e2
      have hin := (hi'.get hp).2.1
      have hkg : g ≠ k := by omega
      have hk3 : some k ≠ (Value.slice a3 (newP ids).length c3).ownBlock := fun e => by have := HA3.out k e.symm; omega
      have HLL := Lib.hid hl'
      have HII := Lib.hid hi'
      have HPP := Lib.hid hp
      generalize l'[j]'(by omega) = p at *
      have HS := Lib.hid (fun x => hs (.int .i32 x))
      have HG6 := Lib.hid (fun x => show PlIs w1.heap.size g (decide ((2 : Int) = 2)) a3 c3 (newP ids) (wr.setCell ⟨k, j * 3 + 1, none⟩ (.int .i32 x)) from ⟨(set_heap_other _ hkg).trans HG5.out.hd, set_owns _ HG5.out.row hk3⟩)
      have HB6 := Lib.hid (fun x => HB5.out.setCell (p := ⟨k, j * 3 + 1, none⟩) (by show w.heap.size ≤ k; omega) (.int .i32 x))
      clear hs ho hl' hi' hp hc hh
      go_wp2_with fail
      go_roundw
      case rel =>
        refine ⟨j + 1, hlt, by go_num, ⟨l'.set j (p.1, RowKit.wrap32 (p.2.1 + 1), p.2.2), by rw [List.length_set]; exact HLL.out, ?_, ?_⟩, HG6.out _, HB6.out _⟩
        · obtain ⟨q1, q2, q3⟩ := HII.out.get HPP.out
          exact HII.out.set _ _ ⟨q1, by show -2147483648 ≤ RowKit.wrap32 (p.2.1 + 1) ∧ RowKit.wrap32 (p.2.1 + 1) ≤ 2147483647; unfold RowKit.wrap32; omega, q3⟩
        · have := HS.out (RowKit.wrap32 (p.2.1 + 1))
          rw [(pv_set l' j p _ HPP.out).2.1 _ rfl] at this
          exact this
      case measure => simp [Go.RowKit.intOf]; omega
    · obtain rfl : n = j := by omega
      clear ho hl' hi'
      go_wp2_with (first
        | (go_at_call 50; (with_reducible refine (pall_any _ g _ a3 c3 _ _ HG5.out (by rw [newP_length, HL.out]; omega)).mono ?_); rintro e w7 ⟨a7, c7, rfl, ho, _, _, _, hb7⟩; rw [newP_length, HL.out] at ho; rw [newP_length, HL.out]; have HM7 := Lib.hid ho; have HB7 := Lib.hid (HB5.out.trans (hb7.mono HB5.out.size)); clear ho hb7)
        | (go_at_call 39; (with_reducible refine (refNewP_any a n c ids w7 (HH.out.below HB7.out) HL.out (by omega)).mono ?_); rintro e w8 ⟨v8, rfl, hr8, hb8⟩; obtain ⟨a8, c8, rfl, ho8⟩ := hr8; rw [newP_length, HL.out] at ho8; rw [newP_length, HL.out]; have HM8 := Lib.hid ho8; have HM7' := Lib.hid ((has_of_owns HM7.out).below hb8); have HB8 := Lib.hid (HB7.out.trans (hb8.mono HB7.out.size)); clear ho8 hb8)
        | (go_at_call 49; (with_reducible refine (refSameP_any a7 a8 n c7 n c8 (newP ids) (newP ids) w8 HM7'.out (by rw [newP_length, HL.out]) (has_of_owns HM8.out) (by rw [newP_length, HL.out]) (by omega) (by omega)).mono ?_); rintro e w9 ⟨rfl, hb9⟩; have HB9 := Lib.hid (HB8.out.trans (hb9.mono HB8.out.size)); clear hb9))
      go_ret
      exact ⟨by simp, HB9.out⟩

open Go.ChangeShapes Go.WideShapes Go.ChangeAt Go.RowKit
open Go.ChangeMaps (open_string shut_string)

set_option maxRecDepth 100000 in
theorem placeOwn_walks (H : Type) (enc : TypeId × Value → H) : Walks H enc 9 [30] := by
  intro W base args ds p hval hA _
  obtain ⟨v0, vs0, d0, ds0, p0, q0, hargs, rfl, rfl, h0, r0⟩ := trodAll_cons hA
  obtain ⟨rfl, rfl, rfl⟩ := trodAll_nil r0
  obtain rfl : args = #[v0] := by cases args; simp_all
  obtain ⟨a, n, c, ids, rfl, hl, _, _, _, hi, _⟩ := open_ids (hval 0 30 v0 rfl rfl) h0
  exact placeOwn_walk a n c ids W hi hl

set_option maxRecDepth 100000 in
theorem placeOwn_lifted (os : Os) (started : os.Started) (H : Type) (enc : TypeId × Value → H) :
    ReturnsInHanded {} Try.checked os 9 .any (Rows.placeOwnSpec.pre6 enc Try.prog Try.f9 Rows.placeOwnRow.domain false) (Rows.placeOwnSpec.post enc Try.prog Try.f9 false true false false) :=
  lift_law (s := Rows.placeOwnSpec) (fn := Try.f9) started (by kernel_rfl) Try.func9
    (ChangeSpec.witness6 (enc := enc) (C := Try.checked) false ⟨#[], #[.slice none 0 0], []⟩ 8 (by kernel_rfl) (by kernel_rfl) (by kernel_rfl) (by kernel_rfl))
    rfl rfl (fun ds h => by match ds, h with | [d0], _ => rfl) (by intro t ht; simp [Try.params9] at ht; first | (subst ht; exact ⟨by kernel_rfl, of_decide_eq_true (by kernel_rfl)⟩) | (obtain rfl | rfl := ht <;> exact ⟨by kernel_rfl, of_decide_eq_true (by kernel_rfl)⟩) | (obtain rfl | rfl | rfl := ht <;> exact ⟨by kernel_rfl, of_decide_eq_true (by kernel_rfl)⟩) | (obtain rfl | rfl | rfl | rfl := ht <;> exact ⟨by kernel_rfl, of_decide_eq_true (by kernel_rfl)⟩))
    (by rw [Try.params9]; exact placeOwn_walks H enc)
theorem placeOwn_over : Rows.placeOwnRow.holds Try.pinned (OpenSpec.ofChange Rows.placeOwnSpec) :=
  OpenClaim.holds_of_wide 9 Try.f9 rfl rfl rfl rfl rfl rfl rfl ⟨rfl, rfl, rfl, rfl, rfl⟩ rfl rfl rfl rfl rfl (by kernel_rfl) Try.func9 (by kernel_rfl)
    (of_decide_eq_true (by kernel_rfl)) (by unfold Func.isWrapper; first | (rw [if_pos (by decide +kernel)]; kernel_rfl) | (rw [if_neg (by decide +kernel)]; exact ⟨rfl, rfl⟩))
    (fun os started H enc _ => placeOwn_lifted os started H enc)
theorem placeOwn_proved : Rows.PlaceOwnSaid := placeOwn_over
#print axioms placeOwn_proved
end Go.Proofs.Ytbicnkopmamnpaa
