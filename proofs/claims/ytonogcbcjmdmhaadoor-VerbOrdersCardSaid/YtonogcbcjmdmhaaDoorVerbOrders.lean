
/- VerbOrders returns true for every input, and changes nothing: of any verb, and any row, the order is the document's. Condition: the table of verbs holds what the program's text lays (the card ties it). -/
import Derived.Test.YtonogcbcjmdmhaaDoorVSpk
import Derived.Test.YtonogcbcjmdmhaaDoorVRefO
import Derived.Test.YtonogcbcjmdmhaaDoorVLift
import Derived.Test.YtonogcbcjmdmhaaDoorTie
import Derived.Test.YtonogcbcjmdmhaaDoorCards
import Derived.SevenTiedAt
namespace Go.Proofs.YtonogcbcjmdmhaaDoor
open Go.ChangeShapes Go.WideShapes Go.ChangeAt Go.RowKit

set_option maxRecDepth 100000 in
set_option maxHeartbeats 3200000 in
theorem verbOrders_walk (z zn : Int) (w : World) (hV : VerbsIn w) (hz : -9223372036854775808 ≤ zn) :
    Calls Tryd.prog 3 #[.int .i64 z, .int .i64 zn] w fun e w' => e = .returned (.bool true) ∧ Below w.heap.size w w' := by
  have HS := Lib.hid (speaks13_any w hV)
  by_cases h1 : 1000 < zn
  · have d1 : decide ((1000 : Int) < zn) = true := by simpa using h1
    clear hV hz h1
    go_enter Tryd.func3, Tryd.ntmps3
    go_wp2_with (go_at_call 6; (with_reducible refine HS.out.mono ?_); rintro e w1 ⟨rfl, hb1⟩)
    go_ret
    exact ⟨rfl, hb1⟩
  have d1 : decide ((1000 : Int) < zn) = false := by simp; omega
  by_cases hok : okV z zn
  · obtain ⟨v, n, rfl, rfl, k1, k2, k3⟩ := okV_pre hok
    have hn : n ≤ 1000 := by omega
    have HO := Lib.hid (fun W (hW : Below w.heap.size w W) => vorder_yes v n W (hV.below hW) (by omega) k1 k2 k3 v n rfl rfl)
    have HR := Lib.hid (fun W => refvorder_yes v n W (by omega) k1 k2 k3 v n rfl rfl (refvorder_any v n W (by omega) (by omega)))
    have HL := Lib.hid (ordV_length v n k2 k1 k3)
    generalize ordV v n = L at *
    clear hV hz h1 hok k1 k2 k3
    go_enter Tryd.func3, Tryd.ntmps3
    go_wp2_with (first
      | (go_at_call 6; (with_reducible refine HS.out.mono ?_); rintro e w1 ⟨rfl, hb1⟩)
      | (go_at_call 7; (with_reducible refine (HO.out _ hb1).mono ?_); rintro e w2 ⟨a2, c2, rfl, hh2, q1, q2, q3, hb2⟩; have HH2 := Lib.hid hh2; clear hh2)
      | (go_at_call 8; (with_reducible refine (HR.out _).mono ?_); rintro e w3 ⟨a3, c3, rfl, hh3, q4, q5, q6, hb3⟩; have HH3 := Lib.hid hh3; clear hh3))
    have HB := Lib.hid (bthen (bthen hb1 hb2) hb3)
    have HHB := Lib.hid (HH2.out.below hb3)
    clear hb1 hb2 hb3 HH2
    go_loopw [38] (fun i wr => ∃ j : Nat, j ≤ n ∧ i = .int .i64 (j : Nat) ∧ Below w3.heap.size w3 wr) (fun i _ => n - (RowKit.intOf i).toNat)
    case atStart => exact ⟨0, Nat.zero_le _, rfl, Below.refl _ _⟩
    case round =>
      obtain ⟨j, hj, rfl, hb⟩ := hrel
      rename World => wr
      have HBR := Lib.hid hb
      by_cases hlt : j < n
      · obtain ⟨g1, o1, z1, rfl, hg1, hz1, hc1⟩ := iv_at (HHB.out.below hb) (k := j) (by rw [HL.out]; exact hlt)
        obtain ⟨g2, o2, z2, rfl, hg2, hz2, hc2⟩ := iv_at (HH3.out.below hb) (k := j) (by rw [HL.out]; exact hlt)
        rw [hz1] at hz2
        injection hz2 with hz2
        subst hz2
        have dn : (z1 != z1) = false := by simp
        have dj : decide ((j : Int) < (n : Int)) = true := by simpa using hlt
        have mixed : Tryd.prog.follows Departure.mixedOrders = true := by kernel_rfl
        have hbd := Lib.hid (show Below w3.heap.size w3 wr.drew from hb.drew)
        clear hz1 hb
        go_wp2_with fail
        go_region_o
        go_wp2_with fail
        go_roundw
        case rel => exact ⟨j + 1, hlt, by go_num, hbd.out⟩
        case measure => simp only [RowKit.intOf]; omega
      · obtain rfl : n = j := by omega
        clear hb
        go_wp2_with fail
        go_ret
        exact ⟨rfl, bthen HB.out HBR.out⟩
  · have HO := Lib.hid (fun W (hW : Below w.heap.size w W) => vorder_no z zn W (hV.below hW) (by omega) hz hok)
    have HR := Lib.hid (fun W => (refvorder_any z zn W (by omega) hz).mono (R' := fun e w' => e = .returned (.tuple #[.slice none 0 0, .bool false]) ∧ Below W.heap.size W w') (by
      rintro e w' (⟨h, _⟩ | ⟨_, h, hb⟩)
      · exact absurd h hok
      · exact ⟨h, hb⟩))
    clear hV hz h1 hok
    go_enter Tryd.func3, Tryd.ntmps3
    go_wp2_with (first
      | (go_at_call 6; (with_reducible refine HS.out.mono ?_); rintro e w1 ⟨rfl, hb1⟩)
      | (go_at_call 7; (with_reducible refine (HO.out _ hb1).mono ?_); rintro e w2 ⟨rfl, hb2⟩)
      | (go_at_call 8; (with_reducible refine (HR.out _).mono ?_); rintro e w3 ⟨rfl, hb3⟩))
    have HB := Lib.hid (bthen (bthen hb1 hb2) hb3)
    clear hb1 hb2 hb3
    go_loopw [38] (fun i wr => i = .int .i64 0 ∧ wr = w3) (fun _ _ => 0)
    case atStart => exact ⟨rfl, rfl⟩
    case round =>
      obtain ⟨rfl, rfl⟩ := hrel
      go_wp2_with fail
      go_ret
      exact ⟨rfl, HB.out⟩

set_option maxRecDepth 100000 in
theorem verbOrders_walks (H : Type) (enc : TypeId × Value → H) : WalksV H enc 3 [3, 3] := by
  intro W base args ds p hV hval hA _
  obtain ⟨v0, vs0, d0, ds0, p0, q0, hargs, rfl, rfl, h0, r0⟩ := trodAll_cons hA
  obtain ⟨v1, vs1, d1, ds1, p1, q1, rfl, rfl, rfl, h1, r1⟩ := trodAll_cons r0
  obtain ⟨rfl, rfl, rfl⟩ := trodAll_nil r1
  obtain rfl : args = #[v0, v1] := by cases args; simp_all
  obtain ⟨z0, rfl, t0⟩ := open_int Tryd.underlying3 (hval 0 3 v0 rfl rfl) h0
  obtain ⟨z1, rfl, t1⟩ := open_int Tryd.underlying3 (hval 1 3 v1 rfl rfl) h1
  exact verbOrders_walk z0 z1 W hV (wf_i64 t1).1

set_option maxRecDepth 100000 in
theorem verbOrders_lifted (os : Os) (started : os.Started) (H : Type) (enc : TypeId × Value → H) :
    ReturnsInHanded {} Tryd.checked os 3 .any (fun w args => (Rows.verbOrdersSpec.pre enc Tryd.checked.prog Tryd.f3 [] false w args ∧ laidMetH Tryd.prog laidV w) ∧ sizedMet enc Tryd.checked.prog Tryd.f3 (OpenSpec.ofChange Rows.verbOrdersSpec) false w args) (Rows.verbOrdersSpec.post enc Tryd.checked.prog Tryd.f3 false true false false) :=
  lift_laid (s := Rows.verbOrdersSpec) (fn := Tryd.f3) started (by kernel_rfl) Tryd.func3
    (ChangeSpec.witness_shaped (enc := enc) (C := Tryd.checked) (os := os) (X := fun w _ => laidMetH Tryd.prog laidV w) false (World.doorLaid Tryd.prog 400 os) #[.int .i64 0, .int .i64 0] 8 rfl (World.shaped_of_RefB (by kernel_rfl) (by kernel_rfl)) (by kernel_rfl) (by kernel_rfl) (by kernel_rfl) (door_met os _))
    rfl rfl (fun ds h => by match ds, h with | [d0, d1], _ => rfl) (by intro t ht; simp [Tryd.params3] at ht; first | (subst ht; exact ⟨by kernel_rfl, of_decide_eq_true (by kernel_rfl)⟩) | (obtain rfl | rfl := ht <;> exact ⟨by kernel_rfl, of_decide_eq_true (by kernel_rfl)⟩) | (obtain rfl | rfl | rfl := ht <;> exact ⟨by kernel_rfl, of_decide_eq_true (by kernel_rfl)⟩) | (obtain rfl | rfl | rfl | rfl := ht <;> exact ⟨by kernel_rfl, of_decide_eq_true (by kernel_rfl)⟩))
    (by rw [Tryd.params3]; exact verbOrders_walks H enc)
theorem verbOrders_over : Rows.verbOrdersRow.holds Tryd.pinned (OpenSpec.ofChange Rows.verbOrdersSpec) :=
  OpenClaim.holds_of_wide 3 Tryd.f3 rfl rfl rfl rfl rfl rfl rfl ⟨rfl, rfl, rfl, rfl, rfl⟩ rfl rfl rfl rfl rfl (by kernel_rfl) Tryd.func3 (by kernel_rfl)
    (of_decide_eq_true (by kernel_rfl)) (by unfold Func.isWrapper; first | (rw [if_pos (by decide +kernel)]; kernel_rfl) | (rw [if_neg (by decide +kernel)]; exact ⟨rfl, rfl⟩))
    (fun os started H enc _ => verbOrders_lifted os started H enc)
theorem verbOrders_proved : Rows.VerbOrdersCardSaid :=
  Claim7.holds_tied_plain_at .later [] [.data] true (true, "32d3916e10ec7c475355e349aa2bd0a039e925efeb864f689639874e076ef897") false
    verbOrders_over (fun _ h => by cases h) (by kernel_rfl) (fun _ h => by cases h) verbOrders_row_tie rfl ⟨rfl, rfl⟩ (by kernel_rfl) rfl
    (fun f fn hf hfn => by
      obtain rfl : f = 3 := Option.some.inj ((show Tryd.prog.funcNamed "swash/swashlaw13.VerbOrders" = some 3 by kernel_rfl).symm.trans hf) |>.symm
      obtain rfl : fn = Tryd.f3 := (Option.some.inj (Tryd.func3.symm.trans hfn)).symm
      exact ⟨by kernel_rfl, fun j t ht => by
        have hall : (Tryd.f3.params.toList.all fun u => !Tryd.prog.wantsStandIn u) = true := by kernel_rfl
        have hm : t ∈ Tryd.f3.params.toList := Array.mem_toList_iff.2 (Array.mem_of_getElem? ht)
        exact (show Tryd.prog.wantsStandIn t = false by simpa using List.all_eq_true.1 hall t hm)⟩)
    (by kernel_rfl)
#print axioms verbOrders_proved
end Go.Proofs.YtonogcbcjmdmhaaDoor
