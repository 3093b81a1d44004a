
/- VerbKeeps returns true for every input, and changes nothing: each glyph of a row stands somewhere, once; those between stay in their order. Condition: the table of verbs holds what the program's text lays (the card ties it). -/
import Derived.Test.YtonogcbcjmdmhaaDoorVSpk
import Derived.Test.YtonogcbcjmdmhaaDoorVLift
import Derived.Test.YtonogcbcjmdmhaaDoorTie
import Derived.Test.YtonogcbcjmdmhaaDoorCards
import Derived.SevenTiedAt
namespace Go.Proofs.YtonogcbcjmdmhaaDoor
open Go.ChangeShapes Go.WideShapes Go.ChangeAt Go.RowKit

set_option maxRecDepth 100000 in
set_option maxHeartbeats 3200000 in
theorem verbKeeps_walk (z zn : Int) (w : World) (hV : VerbsIn w) (hz : -9223372036854775808 ≤ zn) :
    Calls Tryd.prog 4 #[.int .i64 z, .int .i64 zn] w fun e w' => e = .returned (.bool true) ∧ Below w.heap.size w w' := by
  have HS := Lib.hid (speaks13_any w hV)
  by_cases h1 : 200 < zn
  · have d1 : decide ((200 : Int) < zn) = true := by simpa using h1
    clear hV hz h1
    go_enter Tryd.func4, Tryd.ntmps4
    go_wp2_with (go_at_call 6; (with_reducible refine HS.out.mono ?_); rintro e w1 ⟨rfl, hb1⟩)
    go_ret
    exact ⟨rfl, hb1⟩
  have d1 : decide ((200 : Int) < zn) = false := by simp; omega
  by_cases hok : okV z zn
  case neg =>
    have HO := Lib.hid (fun W (hW : Below w.heap.size w W) => vorder_no z zn W (hV.below hW) (by omega) hz hok)
    clear hV hz h1 hok
    go_enter Tryd.func4, Tryd.ntmps4
    go_wp2_with (first
      | (go_at_call 6; (with_reducible refine HS.out.mono ?_); rintro e w1 ⟨rfl, hb1⟩)
      | (go_at_call 7; (with_reducible refine (HO.out _ hb1).mono ?_); rintro e w2 ⟨rfl, hb2⟩))
    go_ret
    exact ⟨rfl, bthen hb1 hb2⟩
  obtain ⟨v, n, rfl, rfl, k1, k2, k3⟩ := okV_pre hok
  have hn : n ≤ 200 := by omega
  have HO := Lib.hid (fun W (hW : Below w.heap.size w W) => vorder_yes v n W (hV.below hW) (by omega) k1 k2 k3 v n rfl rfl)
  have HL := Lib.hid (ordV_length v n k2 k1 k3)
  have HG := Lib.hid (fun i (hi : i < n) => ordV_get v n i k2 k1 k3 hi)
  have HI := Lib.hid (fun i hi => eV_in v k1 k2 n i k3 hi)
  have HN := Lib.hid (fun i => eV_next v k1 k2 n i k3)
  have HJ := Lib.hid (fun i j (hi : i < n) (hj : j < n) e => eV_inj v k1 k2 n i j k3 hi hj e)
  generalize ordV v n = L at *
  generalize eV v n = E at *
  clear hV hz h1 hok k1 k2 k3
  go_enter Tryd.func4, Tryd.ntmps4
  go_wp2_with (first
    | (go_at_call 6; (with_reducible refine HS.out.mono ?_); rintro e w1 ⟨rfl, hb1⟩)
    | (go_at_call 7; (with_reducible refine (HO.out _ hb1).mono ?_); rintro e w2 ⟨a2, c2, rfl, hh2, q1, q2, q3, hb2⟩; have HH2 := Lib.hid hh2; clear hh2))
  have HB := Lib.hid (bthen hb1 hb2)
  clear hb1 hb2
  go_loopw [32] (fun i wr => ∃ j : Nat, j ≤ n ∧ i = .int .i64 (j : Nat) ∧ wr = w2) (fun i _ => n - (RowKit.intOf i).toNat)
  case atStart => exact ⟨0, Nat.zero_le _, rfl, rfl⟩
  case round =>
    obtain ⟨j, hj, rfl, hw⟩ := hrel
    subst hw
    rename World => W2
    by_cases hlt : j < n
    · obtain ⟨g, o, rfl, hg, hx⟩ := iv_cell HH2.out (by rw [HL.out]; omega)
      have HX := Lib.hid (fun i (hi : i < n) => hx i _ (HG.out i hi))
      have c1 := HX.out j hlt
      obtain ⟨i0, i1⟩ := HI.out j hlt
      have HNJ := Lib.hid (HN.out j)
      have HJJ := Lib.hid (fun i hi => HJ.out j i hlt hi)
      generalize E j = z at *
      have d2 : decide (z < 0) = false := by simpa using i0
      have d3 : decide ((n : Int) ≤ z) = false := by simpa using i1
      have dj : decide ((j : Int) < (n : Int)) = true := by simpa using hlt
      have hjc : j ≤ c2 := by omega
      clear hx
      go_wp2_with fail
      go_loopw [48] (fun i wr => ∃ r : Nat, r ≤ j ∧ i = .int .i64 (r : Nat) ∧ wr = W2) (fun i _ => j - (RowKit.intOf i).toNat)
      case atStart => exact ⟨0, Nat.zero_le _, rfl, rfl⟩
      case round =>
        obtain ⟨r, hr, rfl, hw⟩ := hrel
        subst hw
        by_cases hrl : r < j
        · have cr := HX.out r (by omega)
          have hne : ¬ E r = z := fun e => by have := HJJ.out r (by omega) e; omega
          generalize E r = y at *
          have de : (y == z) = false := by simpa using hne
          have dr : decide ((r : Int) < (j : Int)) = true := by simpa using hrl
          clear hne
          go_wp2_with fail
          go_roundw
          case rel => exact ⟨r + 1, hrl, by go_num, by trivial⟩
          case measure => simp only [RowKit.intOf]; omega
        · obtain rfl : r = j := by omega
          have dr : decide ((r : Int) < (r : Int)) = false := by simp
          by_cases g1 : 2 ≤ z
          case neg =>
            have d4 : decide ((2 : Int) ≤ z) = false := by simpa using g1
            clear g1
            go_wp2_with fail
            go_roundw
            case rel => exact ⟨r + 1, hlt, by go_num, by trivial⟩
            case measure => simp only [RowKit.intOf]; omega
          have d4 : decide ((2 : Int) ≤ z) = true := by simpa using g1
          by_cases g2 : z < (n : Int) - 3
          case neg =>
            have d5 : decide (z < (n : Int) - 3) = false := by simpa using g2
            clear g1 g2
            go_wp2_with fail
            go_roundw
            case rel => exact ⟨r + 1, hlt, by go_num, by trivial⟩
            case measure => simp only [RowKit.intOf]; omega
          have d5 : decide (z < (n : Int) - 3) = true := by simpa using g2
          obtain ⟨m1, m2⟩ := HNJ.out g1 g2
          have cn := HX.out (r + 1) m1
          rw [m2] at cn
          have d6 : decide ((n : Int) ≤ (r : Int) + 1) = false := by simp; omega
          have d7 : ((z + 1) != (z + 1)) = false := by simp
          clear g1 g2 m2
          go_wp2_with fail
          go_roundw
          case rel => exact ⟨r + 1, hlt, by go_num, by trivial⟩
          case measure => simp only [RowKit.intOf]; omega
    · obtain rfl : n = j := by omega
      go_wp2_with fail
      go_ret
      exact ⟨rfl, HB.out⟩

set_option maxRecDepth 100000 in
theorem verbKeeps_walks (H : Type) (enc : TypeId × Value → H) : WalksV H enc 4 [3, 3] := by
  intro W base args ds p hV hval hA _
  obtain ⟨v0, vs0, d0, ds0, p0, q0, hargs, rfl, rfl, h0, r0⟩ := trodAll_cons hA
  obtain ⟨v1, vs1, d1, ds1, p1, q1, rfl, rfl, rfl, h1, r1⟩ := trodAll_cons r0
  obtain ⟨rfl, rfl, rfl⟩ := trodAll_nil r1
  obtain rfl : args = #[v0, v1] := by cases args; simp_all
  obtain ⟨z0, rfl, t0⟩ := open_int Tryd.underlying3 (hval 0 3 v0 rfl rfl) h0
  obtain ⟨z1, rfl, t1⟩ := open_int Tryd.underlying3 (hval 1 3 v1 rfl rfl) h1
  exact verbKeeps_walk z0 z1 W hV (wf_i64 t1).1

set_option maxRecDepth 100000 in
theorem verbKeeps_lifted (os : Os) (started : os.Started) (H : Type) (enc : TypeId × Value → H) :
    ReturnsInHanded {} Tryd.checked os 4 .any (fun w args => (Rows.verbKeepsSpec.pre enc Tryd.checked.prog Tryd.f4 [] false w args ∧ laidMetH Tryd.prog laidV w) ∧ sizedMet enc Tryd.checked.prog Tryd.f4 (OpenSpec.ofChange Rows.verbKeepsSpec) false w args) (Rows.verbKeepsSpec.post enc Tryd.checked.prog Tryd.f4 false true false false) :=
  lift_laid (s := Rows.verbKeepsSpec) (fn := Tryd.f4) started (by kernel_rfl) Tryd.func4
    (ChangeSpec.witness_shaped (enc := enc) (C := Tryd.checked) (os := os) (X := fun w _ => laidMetH Tryd.prog laidV w) false (World.doorLaid Tryd.prog 400 os) #[.int .i64 0, .int .i64 0] 8 rfl (World.shaped_of_RefB (by kernel_rfl) (by kernel_rfl)) (by kernel_rfl) (by kernel_rfl) (by kernel_rfl) (door_met os _))
    rfl rfl (fun ds h => by match ds, h with | [d0, d1], _ => rfl) (by intro t ht; simp [Tryd.params4] at ht; first | (subst ht; exact ⟨by kernel_rfl, of_decide_eq_true (by kernel_rfl)⟩) | (obtain rfl | rfl := ht <;> exact ⟨by kernel_rfl, of_decide_eq_true (by kernel_rfl)⟩) | (obtain rfl | rfl | rfl := ht <;> exact ⟨by kernel_rfl, of_decide_eq_true (by kernel_rfl)⟩) | (obtain rfl | rfl | rfl | rfl := ht <;> exact ⟨by kernel_rfl, of_decide_eq_true (by kernel_rfl)⟩))
    (by rw [Tryd.params4]; exact verbKeeps_walks H enc)
theorem verbKeeps_over : Rows.verbKeepsRow.holds Tryd.pinned (OpenSpec.ofChange Rows.verbKeepsSpec) :=
  OpenClaim.holds_of_wide 4 Tryd.f4 rfl rfl rfl rfl rfl rfl rfl ⟨rfl, rfl, rfl, rfl, rfl⟩ rfl rfl rfl rfl rfl (by kernel_rfl) Tryd.func4 (by kernel_rfl)
    (of_decide_eq_true (by kernel_rfl)) (by unfold Func.isWrapper; first | (rw [if_pos (by decide +kernel)]; kernel_rfl) | (rw [if_neg (by decide +kernel)]; exact ⟨rfl, rfl⟩))
    (fun os started H enc _ => verbKeeps_lifted os started H enc)
theorem verbKeeps_proved : Rows.VerbKeepsCardSaid :=
  Claim7.holds_tied_plain_at .later [] [.data] true (true, "32d3916e10ec7c475355e349aa2bd0a039e925efeb864f689639874e076ef897") false
    verbKeeps_over (fun _ h => by cases h) (by kernel_rfl) (fun _ h => by cases h) verbKeeps_row_tie rfl ⟨rfl, rfl⟩ (by kernel_rfl) rfl
    (fun f fn hf hfn => by
      obtain rfl : f = 4 := Option.some.inj ((show Tryd.prog.funcNamed "swash/swashlaw13.VerbKeeps" = some 4 by kernel_rfl).symm.trans hf) |>.symm
      obtain rfl : fn = Tryd.f4 := (Option.some.inj (Tryd.func4.symm.trans hfn)).symm
      exact ⟨by kernel_rfl, fun j t ht => by
        have hall : (Tryd.f4.params.toList.all fun u => !Tryd.prog.wantsStandIn u) = true := by kernel_rfl
        have hm : t ∈ Tryd.f4.params.toList := Array.mem_toList_iff.2 (Array.mem_of_getElem? ht)
        exact (show Tryd.prog.wantsStandIn t = false by simpa using List.all_eq_true.1 hall t hm)⟩)
    (by kernel_rfl)
#print axioms verbKeeps_proved
end Go.Proofs.YtonogcbcjmdmhaaDoor
