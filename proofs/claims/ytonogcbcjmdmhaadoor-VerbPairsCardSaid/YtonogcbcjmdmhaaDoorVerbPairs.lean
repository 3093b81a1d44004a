
/- VerbPairs returns true for every input, and changes nothing: the verbs that undo each other do. Condition: the table of verbs holds what the program's text lays (the card ties it). -/
import Derived.Test.YtonogcbcjmdmhaaDoorVSpk
import Derived.Test.YtonogcbcjmdmhaaDoorVLift
import Derived.Test.YtonogcbcjmdmhaaDoorTie
import Derived.Test.YtonogcbcjmdmhaaDoorCards
import Derived.SevenTiedAt
namespace Go.Proofs.YtonogcbcjmdmhaaDoor
open Go.ChangeShapes Go.WideShapes Go.ChangeAt Go.RowKit

def pairP (k : Nat) : Nat := [1, 2, 3, 4, 6, 8, 10, 12, 15].getD k 0
def pairQ (k : Nat) : Nat := [2, 1, 3, 6, 4, 10, 8, 12, 15].getD k 0
theorem pairs_ok : ∀ k, k < 9 → 1 ≤ pairP k ∧ pairP k < 16 ∧ 1 ≤ pairQ k ∧ pairQ k < 16 ∧ invV (pairQ k) = pairP k ∧ (preV (pairP k)).length + (sufV (pairP k)).length ≤ 4 ∧ (preV (pairQ k)).length + (sufV (pairQ k)).length ≤ 4 := by decide
theorem pairs_get : ∀ k, k < 9 → ∀ w, (Instr.index 28 (.agg #[.int .i64 1, .int .i64 2, .int .i64 2, .int .i64 1, .int .i64 3, .int .i64 3, .int .i64 4, .int .i64 6, .int .i64 6, .int .i64 4, .int .i64 8, .int .i64 10, .int .i64 10, .int .i64 8, .int .i64 12, .int .i64 12, .int .i64 15, .int .i64 15]) (.int .i64 (k : Nat))).run Tryd.prog w = .ok (.agg #[.int .i64 (pairP k : Nat), .int .i64 (pairQ k : Nat)]) w
  | 0, _ => fun _ => by kernel_rfl
  | 1, _ => fun _ => by kernel_rfl
  | 2, _ => fun _ => by kernel_rfl
  | 3, _ => fun _ => by kernel_rfl
  | 4, _ => fun _ => by kernel_rfl
  | 5, _ => fun _ => by kernel_rfl
  | 6, _ => fun _ => by kernel_rfl
  | 7, _ => fun _ => by kernel_rfl
  | 8, _ => fun _ => by kernel_rfl
  | k + 9, h => absurd h (by omega)
set_option maxRecDepth 100000 in
set_option maxHeartbeats 3200000 in
theorem verbPairs_walk (zn : Int) (w : World) (hV : VerbsIn w) :
    Calls Tryd.prog 5 #[.int .i64 zn] w fun e w' => e = .returned (.bool true) ∧ Below w.heap.size w w' := by
  have hAC := allocC
  have hAF := allocF
  have HS := Lib.hid (speaks13_any w hV)
  by_cases h1 : zn < 4
  · have d1 : decide (zn < 4) = true := by simpa using h1
    clear hV h1
    go_enter Tryd.func5, Tryd.ntmps5
    go_wp2_with (go_at_call 6; (with_reducible refine HS.out.mono ?_); rintro e w1 ⟨rfl, hb1⟩)
    go_ret
    exact ⟨rfl, hb1⟩
  have d1 : decide (zn < 4) = false := by simp; omega
  by_cases h2 : 200 < zn
  · have d2 : decide ((200 : Int) < zn) = true := by simpa using h2
    clear hV h1 h2
    go_enter Tryd.func5, Tryd.ntmps5
    go_wp2_with (go_at_call 6; (with_reducible refine HS.out.mono ?_); rintro e w1 ⟨rfl, hb1⟩)
    go_ret
    exact ⟨rfl, hb1⟩
  have d2 : decide ((200 : Int) < zn) = false := by simp; omega
  obtain ⟨n, rfl⟩ : ∃ n : Nat, zn = n := ⟨zn.toNat, by omega⟩
  have hn : n ≤ 200 := by omega
  have hn4 : 4 ≤ n := by omega
  have HO := Lib.hid (fun W (hW : Below w.heap.size w W) v (k1 : 1 ≤ v) (k2 : v < 16) (k3 : (preV v).length + (sufV v).length ≤ 4) => vorder_yes v n W (hV.below hW) (by omega) k1 k2 (by omega) v n rfl rfl)
  have HV := Lib.hid hV
  clear hV h1 h2
  go_enter Tryd.func5, Tryd.ntmps5
  go_wp2_with (go_at_call 6; (with_reducible refine HS.out.mono ?_); rintro e w1 ⟨rfl, hb1⟩)
  have HB1 := Lib.hid hb1
  clear hb1
  go_loopw [28] (fun i wr => ∃ k : Nat, k ≤ 9 ∧ i = .int .i64 (k : Nat) ∧ Below w.heap.size w wr) (fun i _ => 9 - (RowKit.intOf i).toNat)
  case atStart => exact ⟨0, Nat.zero_le _, rfl, HB1.out⟩
  case round =>
    obtain ⟨k, hk, rfl, hb⟩ := hrel
    rename World => wr
    have HB := Lib.hid hb
    have hzr := hb.size
    clear hb
    by_cases hlt : k < 9
    · obtain ⟨p1, p2, q1, q2, hinv, p3, q3⟩ := pairs_ok k hlt
      have gk := pairs_get k hlt
      have HBK := Lib.hid (fun i (hi : i < n) => eV_back (pairQ k) q1 q2 n i (by omega) hi)
      rw [hinv] at HBK
      have HP := Lib.hid (fun W (hW : Below w.heap.size w W) => HO.out W hW (pairP k) p1 p2 p3)
      have HQ := Lib.hid (fun W (hW : Below w.heap.size w W) => HO.out W hW (pairQ k) q1 q2 q3)
      have HGP := Lib.hid (fun i (hi : i < n) => ordV_get (pairP k) n i p2 p1 (by omega) hi)
      have HGQ := Lib.hid (fun i (hi : i < n) => ordV_get (pairQ k) n i q2 q1 (by omega) hi)
      have HIQ := Lib.hid (fun i (hi : i < n) => eV_in (pairQ k) q1 q2 n i (by omega) hi)
      have HLP := Lib.hid (ordV_length (pairP k) n p2 p1 (by omega))
      have HLQ := Lib.hid (ordV_length (pairQ k) n q2 q1 (by omega))
      generalize pairP k = P at *
      generalize pairQ k = Q at *
      have dk : decide ((k : Int) < 9) = true := by simp; omega
      clear p1 p2 q1 q2 hinv p3 q3
      have hbr := HB.out
      go_wp2_with (first
        | (go_at_call 7; (with_reducible refine (HP.out _ (by exact (by repeat (first | with_reducible exact brefl _ | with_reducible assumption | (with_reducible refine bset ?_ (by first | (simp; done) | (simp; omega)) _) | with_reducible refine balloc ?_ _ | with_reducible refine bdrew ?_ _ | with_reducible refine bdrew1 ?_ | with_reducible refine bthen ?_ (by assumption) | with_reducible refine Below.trans ?_ (by assumption) | exact brefl _ | assumption | refine balloc ?_ _ | refine bdrew ?_ _ | refine bdrew1 ?_ | refine bthen ?_ (by assumption) | refine Below.trans ?_ (by assumption) | (refine bset ?_ (by first | (simp; done) | (simp; omega)) _))))).mono ?_); rintro e w2 ⟨a2, c2, rfl, hh2, s1, s2, s3, hb2⟩; have h2c := bc hb2; have h2z := hb2.size; have HH2 := Lib.hid hh2; clear hh2)
        | (go_at_call 7; (with_reducible refine (HQ.out _ (by exact (by repeat (first | with_reducible exact brefl _ | with_reducible assumption | (with_reducible refine bset ?_ (by first | (simp; done) | (simp; omega)) _) | with_reducible refine balloc ?_ _ | with_reducible refine bdrew ?_ _ | with_reducible refine bdrew1 ?_ | with_reducible refine bthen ?_ (by assumption) | with_reducible refine Below.trans ?_ (by assumption) | exact brefl _ | assumption | refine balloc ?_ _ | refine bdrew ?_ _ | refine bdrew1 ?_ | refine bthen ?_ (by assumption) | refine Below.trans ?_ (by assumption) | (refine bset ?_ (by first | (simp; done) | (simp; omega)) _))))).mono ?_); rintro e w3 ⟨a3, c3, rfl, hh3, s4, s5, s6, hb3⟩; have HH3 := Lib.hid hh3; clear hh3))
      have hb4 : Below w.heap.size w w3 := bthen (bthen (balloc HB.out _) hb2) hb3
      have HB4 := Lib.hid hb4
      have HHP := Lib.hid (HH2.out.below hb3)
      clear hb4 HH2 hb2 hb3 h2c h2z hAC hAF gk hbr
      go_loopw [64] (fun i wz => ∃ j : Nat, j ≤ n ∧ i = .int .i64 (j : Nat) ∧ wz = w3) (fun i _ => n - (RowKit.intOf i).toNat)
      case atStart => exact ⟨0, Nat.zero_le _, rfl, rfl⟩
      case round =>
        obtain ⟨j, hj, rfl, hw⟩ := hrel
        subst hw
        by_cases hjl : j < n
        · obtain ⟨g2, o2, rfl, hg2, hx2⟩ := iv_cell HHP.out (by rw [HLP.out]; omega)
          obtain ⟨g3, o3, rfl, hg3, hx3⟩ := iv_cell HH3.out (by rw [HLQ.out]; omega)
          have c3 := hx3 j _ (HGQ.out j hjl)
          obtain ⟨i0, i1⟩ := HIQ.out j hjl
          have hbk := HBK.out j hjl
          obtain ⟨y, hy⟩ : ∃ y : Nat, eV Q n j = y := ⟨(eV Q n j).toNat, by omega⟩
          rw [hy, Int.toNat_natCast] at hbk
          rw [hy] at c3 i0 i1
          have hyn : y < n := by omega
          have c2 := hx2 y _ (HGP.out y hyn)
          rw [hbk] at c2
          have d3 : decide ((y : Int) < 0) = false := by simp
          have d4 : decide ((n : Int) ≤ (y : Int)) = false := by simp; omega
          have d5 : decide ((j : Int) < (n : Int)) = true := by simp; omega
          have d6 : ((j : Int) != (j : Int)) = false := by simp
          clear hx2 hx3 hbk hy
          go_wp2_with fail
          go_roundw
          case rel => exact ⟨j + 1, hjl, by go_num, by trivial⟩
          case measure => simp only [RowKit.intOf]; omega
        · obtain rfl : n = j := by omega
          have d5 : decide ((n : Int) < (n : Int)) = false := by simp
          go_wp2_with fail
          go_roundw
          case rel => exact ⟨k + 1, hlt, by go_num, HB4.out⟩
          case measure => simp only [RowKit.intOf]; omega
    · obtain rfl : k = 9 := by omega
      go_wp2_with fail
      go_ret
      exact ⟨rfl, HB.out⟩

set_option maxRecDepth 100000 in
theorem verbPairs_walks (H : Type) (enc : TypeId × Value → H) : WalksV H enc 5 [3] := by
  intro W base args ds p hV hval hA _
  obtain ⟨v0, vs0, d0, ds0, p0, q0, hargs, rfl, rfl, h0, r0⟩ := trodAll_cons hA
  obtain ⟨rfl, rfl, rfl⟩ := trodAll_nil r0
  obtain rfl : args = #[v0] := by cases args; simp_all
  obtain ⟨z0, rfl, t0⟩ := open_int Tryd.underlying3 (hval 0 3 v0 rfl rfl) h0
  exact verbPairs_walk z0 W hV

set_option maxRecDepth 100000 in
theorem verbPairs_lifted (os : Os) (started : os.Started) (H : Type) (enc : TypeId × Value → H) :
    ReturnsInHanded {} Tryd.checked os 5 .any (fun w args => (Rows.verbPairsSpec.pre enc Tryd.checked.prog Tryd.f5 [] false w args ∧ laidMetH Tryd.prog laidV w) ∧ sizedMet enc Tryd.checked.prog Tryd.f5 (OpenSpec.ofChange Rows.verbPairsSpec) false w args) (Rows.verbPairsSpec.post enc Tryd.checked.prog Tryd.f5 false true false false) :=
  lift_laid (s := Rows.verbPairsSpec) (fn := Tryd.f5) started (by kernel_rfl) Tryd.func5
    (ChangeSpec.witness_shaped (enc := enc) (C := Tryd.checked) (os := os) (X := fun w _ => laidMetH Tryd.prog laidV w) false (World.doorLaid Tryd.prog 400 os) #[.int .i64 0] 8 rfl (World.shaped_of_RefB (by kernel_rfl) (by kernel_rfl)) (by kernel_rfl) (by kernel_rfl) (by kernel_rfl) (door_met os _))
    rfl rfl (fun ds h => by match ds, h with | [d0], _ => rfl) (by intro t ht; simp [Tryd.params5] at ht; first | (subst ht; exact ⟨by kernel_rfl, of_decide_eq_true (by kernel_rfl)⟩) | (obtain rfl | rfl := ht <;> exact ⟨by kernel_rfl, of_decide_eq_true (by kernel_rfl)⟩) | (obtain rfl | rfl | rfl := ht <;> exact ⟨by kernel_rfl, of_decide_eq_true (by kernel_rfl)⟩) | (obtain rfl | rfl | rfl | rfl := ht <;> exact ⟨by kernel_rfl, of_decide_eq_true (by kernel_rfl)⟩))
    (by rw [Tryd.params5]; exact verbPairs_walks H enc)
theorem verbPairs_over : Rows.verbPairsRow.holds Tryd.pinned (OpenSpec.ofChange Rows.verbPairsSpec) :=
  OpenClaim.holds_of_wide 5 Tryd.f5 rfl rfl rfl rfl rfl rfl rfl ⟨rfl, rfl, rfl, rfl, rfl⟩ rfl rfl rfl rfl rfl (by kernel_rfl) Tryd.func5 (by kernel_rfl)
    (of_decide_eq_true (by kernel_rfl)) (by unfold Func.isWrapper; first | (rw [if_pos (by decide +kernel)]; kernel_rfl) | (rw [if_neg (by decide +kernel)]; exact ⟨rfl, rfl⟩))
    (fun os started H enc _ => verbPairs_lifted os started H enc)
theorem verbPairs_proved : Rows.VerbPairsCardSaid :=
  Claim7.holds_tied_plain_at .later [] [.data] true (true, "32d3916e10ec7c475355e349aa2bd0a039e925efeb864f689639874e076ef897") false
    verbPairs_over (fun _ h => by cases h) (by kernel_rfl) (fun _ h => by cases h) verbPairs_row_tie rfl ⟨rfl, rfl⟩ (by kernel_rfl) rfl
    (fun f fn hf hfn => by
      obtain rfl : f = 5 := Option.some.inj ((show Tryd.prog.funcNamed "swash/swashlaw13.VerbPairs" = some 5 by kernel_rfl).symm.trans hf) |>.symm
      obtain rfl : fn = Tryd.f5 := (Option.some.inj (Tryd.func5.symm.trans hfn)).symm
      exact ⟨by kernel_rfl, fun j t ht => by
        have hall : (Tryd.f5.params.toList.all fun u => !Tryd.prog.wantsStandIn u) = true := by kernel_rfl
        have hm : t ∈ Tryd.f5.params.toList := Array.mem_toList_iff.2 (Array.mem_of_getElem? ht)
        exact (show Tryd.prog.wantsStandIn t = false by simpa using List.all_eq_true.1 hall t hm)⟩)
    (by kernel_rfl)
#print axioms verbPairs_proved
end Go.Proofs.YtonogcbcjmdmhaaDoor
