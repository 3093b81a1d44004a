
/- Of an exclusive type one setting is on at most, of another one one of each two, for every case. No condition but those of the statement. -/
import Derived.Test.YtfnghinefbmlmaaPickN
namespace Go.Proofs.Ytfnghinefbmlmaa
open Go.RowKit Go.Lib

theorem apart_over {ex : Int → Bool} {l on : List St} (h : SetS ex l on) {i j : Nat} {x y : St} (hij : j < i) (hx : on[i]? = some x) (hy : on[j]? = some y) : overS ex x y = false := by
  cases ho : overS ex x y with
  | false => rfl
  | true =>
    have e := on_over ((h.2 x).1 (List.mem_of_getElem? hx)) ((h.2 y).1 (List.mem_of_getElem? hy)) ho
    subst e
    have := rise_at h.1 hij hy hx
    rw [ltS_irrefl] at this
    cases this
def standsF (ex : Int → Bool) (s : St) (xs : List St) : Bool := !rightS s || xs.any fun x => overS ex s x
theorem stands_snoc (ex : Int → Bool) (s x : St) (xs : List St) : standsF ex s (xs ++ [x]) = (standsF ex s xs || overS ex s x) := by
  simp [standsF, Bool.or_assoc]
theorem stands_all {ex : Int → Bool} {l on : List St} (h : SetS ex l on) {s : St} (hs : s ∈ l) : standsF ex s on = true := by
  unfold standsF
  cases hr : rightS s with
  | false => rfl
  | true =>
    obtain ⟨x, h1, h2⟩ := on_stands hs hr
    simp only [Bool.not_true, Bool.false_or]
    rw [List.any_eq_true]
    exact ⟨x, (h.2 x).2 h1, h2⟩
set_option maxRecDepth 100000 in
set_option maxHeartbeats 4000000 in
theorem pickOne_walk (a : Option Addr) (n c : Nat) (l : List St) (ka : Option Addr) (kn kc : Nat) (ks : List UInt8) (xa : Option Addr) (xn xc : Nat) (xs : List Bool) (w : World) (h : CaseOk w a n c l ka kn kc ks xa xn xc xs) :
    Calls Try.prog 8 #[caseV a n c ka kn kc xa xn xc] w fun e w' => e = .returned (.bool true) ∧ Below w.heap.size w w' := by
  have hAC := allocC
  have hAF := allocF
  have HSP := Lib.hid (fun W => speaks9_any W)
  have HC := Lib.hid h
  clear h
  have HBG := Lib.hid (fun b W hb => big_any a n c ka kn kc xa xn xc b W hb)
  by_cases hbig : 100 < n ∨ 40 < kn
  · have HB1 := Lib.hid (show (decide (100 < (n : Int)) || decide (40 < (kn : Int))) = true by rcases hbig with g | g <;> simp <;> omega)
    clear hbig
    go_enter Try.func8, Try.ntmps8
    go_wp2_with (first | (go_at_call 14; (with_reducible refine (HSP.out _).mono ?_); rintro e w1 ⟨rfl, hb1⟩; have h1c := bc hb1; have h1f := bf hb1; have h1z := hb1.size; try simp only [World.size_alloc, World.size_drew] at h1z) | (go_at_call 15; (with_reducible refine (HBG.out true _ HB1.out).mono ?_); rintro e w2 ⟨rfl, hb2⟩; have h2c := bc hb2; have h2f := bf hb2; have h2z := hb2.size; try simp only [World.size_alloc, World.size_drew] at h2z))
    go_ret
    exact ⟨rfl, blw⟩
  have HB1 := Lib.hid (show (decide (100 < (n : Int)) || decide (40 < (kn : Int))) = false by simp; omega)
  have hn1 : n ≤ 100 := by omega
  have hn2 : kn ≤ 40 := by omega
  clear hbig
  go_enter Try.func8, Try.ntmps8
  go_wp2_with (first | (go_at_call 14; (with_reducible refine (HSP.out _).mono ?_); rintro e w1 ⟨rfl, hb1⟩; have h1c := bc hb1; have h1f := bf hb1; have h1z := hb1.size; try simp only [World.size_alloc, World.size_drew] at h1z) | (go_at_call 15; (with_reducible refine (HBG.out false _ HB1.out).mono ?_); rintro e w2 ⟨rfl, hb2⟩; have h2c := bc hb2; have h2f := bf hb2; have h2z := hb2.size; try simp only [World.size_alloc, World.size_drew] at h2z) | (go_at_call 16; (with_reducible refine (features_any ka kn kc ks xa xn xc xs _ (HC.out.khas.below (by exact blw)) HC.out.klen hn2 (HC.out.xhas.below (by exact blw)) HC.out.xlen HC.out.xcap).mono ?_); rintro e w3 ⟨a1, m1, c1, a2, c2, fs, rfl, htwo, hm1, hb3⟩; have HT3 := Lib.hid htwo; have h3c := bc hb3; have h3f := bf hb3; have h3z := hb3.size; (try simp only [World.size_alloc, World.size_drew] at h3z); clear htwo) | (go_at_call 17; (with_reducible refine (settle_any a n c l a1 m1 c1 fs _ ⟨HC.out.has.below (by exact blw), HC.out.len, by omega, HC.out.wf⟩ (HT3.out.fe (by omega))).mono ?_); rintro e w4 ⟨a4, m4, c4, on, rfl, hs4, hset4, hm4, hmc4, hcm4, _, hb4⟩; have HS4 := Lib.hid hs4; have HSET := Lib.hid hset4; have h4c := bc hb4; have h4f := bf hb4; have h4z := hb4.size; (try simp only [World.size_alloc, World.size_drew] at h4z); clear hs4 hset4))
  obtain ⟨V, hV⟩ : ∃ V, V = w.alloc (Obj.cells #[.slice a n c, .slice ka kn kc, .slice xa xn xc] 42) := ⟨_, rfl⟩
  have hbV : Below V.heap.size V w4 := by rw [hV]; exact bthen (bthen (bthen hb1 hb2) hb3) hb4
  have hbw : Below w.heap.size w w4 := bthen (show Below w.heap.size w V from by rw [hV]; exact balloc (brefl w) _) hbV
  have e2 : V.heap[w.heap.size]? = some (.cells #[.slice a n c, .slice ka kn kc, .slice xa xn xc] 42 (0, 0)) := by rw [hV, heap_push, if_pos rfl]
  have H2 := Lib.hid ((hbV.block _ (Array.getElem?_eq_some_iff.1 e2).1).trans e2)
  have HBW := Lib.hid hbw
  have HRF := Lib.hid ((HT3.out.below hb4).rf (by omega))
  have HCW := Lib.hid (show SetOk w4 a n c l from ⟨HC.out.has.below hbw, HC.out.len, by omega, HC.out.wf⟩)
  clear hV hbV hbw e2 hb1 hb2 hb3 hb4 h1c h1f h1z h2c h2f h2z h3c h3f h3z h4c h4f h4z HT3 HBG HSP HB1 HC
  generalize exF fs = ex at *
  generalize hg2 : w.heap.size = g2 at *
  have HG2 := Lib.hid hg2
  clear hg2
  have z2 := (Array.getElem?_eq_some_iff.1 H2.out).1
  unfold maxLen at hcm4
  have HOV := Lib.hid (fun (x y : St) (hx : wfS x) (hy : wfS y) W (hW : Below w4.heap.size w4 W) => overR_any x y a2 m1 c2 fs ex W (HRF.out.below hW) hx hy)
  go_loopw [33] (fun i wr => ∃ j : Nat, j ≤ m4 ∧ i = .int .i64 (j : Nat) ∧ Below w4.heap.size w4 wr) (fun i _ => m4 - (intOf i).toNat)
  case atStart => exact ⟨0, Nat.zero_le _, rfl, Below.refl _ _⟩
  case round =>
    obtain ⟨j, hj, rfl, hb⟩ := hrel
    by_cases hlt : j < m4
    · obtain ⟨x, hx⟩ : ∃ x, on[j]? = some x := ⟨_, List.getElem?_eq_getElem (by rw [HS4.out.len]; exact hlt)⟩
      have hwx := HS4.out.wf x (List.mem_of_getElem? hx)
      obtain ⟨b, o, ha, hbl, c0, c1⟩ := set_cells (HS4.out.has.below hb) hx
      subst ha
      go_wp2_with fail
      obtain ⟨U, hU⟩ : ∃ U, U = wr.alloc (Obj.cells #[.int .i64 x.1, .int .i64 x.2] 44) := ⟨_, rfl⟩
      have hbU : Below w4.heap.size w4 U := by rw [hU]; exact balloc hb _
      have h9 : U.heap[wr.heap.size]? = some (.cells #[.int .i64 x.1, .int .i64 x.2] 44 (0, 0)) := by rw [hU, heap_push, if_pos rfl]
      rw [← hU]
      have HBU := Lib.hid hbU
      have H9 := Lib.hid h9
      generalize wr.heap.size = g9 at *
      have z9 := (Array.getElem?_eq_some_iff.1 h9).1
      clear hU c0 c1 hbl hb h9 hbU
      go_loopw [42] (fun i wv => ∃ k : Nat, k ≤ j ∧ i = .int .i64 (k : Nat) ∧ Below U.heap.size U wv) (fun i _ => j - (intOf i).toNat)
      case atStart => exact ⟨0, Nat.zero_le _, rfl, Below.refl _ _⟩
      case round =>
        rename World => wv
        obtain ⟨k, hk, rfl, hbv⟩ := hrel
        have hbv4 : Below w4.heap.size w4 wv := bthen HBU.out hbv
        by_cases hltk : k < j
        · obtain ⟨y, hy⟩ : ∃ y, on[k]? = some y := ⟨_, List.getElem?_eq_getElem (by rw [HS4.out.len]; omega)⟩
          have hwy := HS4.out.wf y (List.mem_of_getElem? hy)
          have HO := Lib.hid (fun W hW => HOV.out x y hwx hwy W hW)
          rw [apart_over HSET.out hltk hx hy] at HO
          obtain ⟨b', o', ha', hbl, e0, e1⟩ := set_cells (HS4.out.has.below hbv4) hy
          obtain ⟨rfl, rfl⟩ : b = b' ∧ o = o' := by simpa using ha'
          have h9v := (hbv.block _ z9).trans H9.out
          have q9 := fun o => cell_of_heap h9v o
          have l9 := (Array.getElem?_eq_some_iff.1 h9v).1
          have HBV := Lib.hid hbv4
          have HBV2 := Lib.hid hbv
          clear ha' hy hwy h9v hbv hbv4
          go_wp2_with (first | (go_at_call 24; (with_reducible refine (HO.out _ (by exact balloc HBV.out _)).mono ?_); rintro e w5 ⟨rfl, hb5⟩; have h5c := bc hb5; have h5f := bf hb5; have h5z := hb5.size; try simp only [World.size_alloc, World.size_drew] at h5z))
          go_roundw
          case rel => exact ⟨k + 1, hltk, by go_num, bthen (balloc HBV2.out _) hb5⟩
          case measure => simp [intOf]; omega
        · obtain rfl : k = j := by omega
          go_wp2_with fail
          go_roundw
          case rel => exact ⟨k + 1, hlt, by go_num, hbv4⟩
          case measure => simp [intOf]; omega
    · obtain rfl : m4 = j := by omega
      have h2r := (hb.block _ z2).trans H2.out
      have q2 := fun o => cell_of_heap h2r o
      have l2 := (Array.getElem?_eq_some_iff.1 h2r).1
      go_wp2_with fail
      clear q2 l2 h2r
      have HB := Lib.hid hb
      clear hb
      go_loopw [55] (fun i wr => ∃ k : Nat, k ≤ n ∧ i = .int .i64 (k : Nat) ∧ Below w4.heap.size w4 wr) (fun i _ => n - (intOf i).toNat)
      case atStart => exact ⟨0, Nat.zero_le _, rfl, HB.out⟩
      case round =>
        rename World => wq
        obtain ⟨k, hk, rfl, hb⟩ := hrel
        by_cases hlt2 : k < n
        · obtain ⟨x, hx⟩ : ∃ x, l[k]? = some x := ⟨_, List.getElem?_eq_getElem (by rw [HCW.out.len]; exact hlt2)⟩
          have hwx := HCW.out.wf x (List.mem_of_getElem? hx)
          have hall := stands_all HSET.out (List.mem_of_getElem? hx)
          obtain ⟨b, o, ha, hbl, c0, c1⟩ := set_cells (HCW.out.has.below hb) hx
          subst ha
          have HR := Lib.hid (fun W => rightR_any x W)
          have HBQ := Lib.hid hb
          go_wp2_with (first | (go_at_call 21; (with_reducible refine (HR.out _).mono ?_); rintro e w5 ⟨rfl, hb5⟩; have h5c := bc hb5; have h5f := bf hb5; have h5z := hb5.size; try simp only [World.size_alloc, World.size_drew] at h5z))
          have hbU : Below w4.heap.size w4 w5 := bthen (balloc HBQ.out _) hb5
          have h9 : w5.heap[wq.heap.size]? = some (.cells #[.int .i64 x.1, .int .i64 x.2] 44 (0, 0)) := (hb5.block _ (by simp)).trans (by rw [heap_push, if_pos rfl])
          have HBU := Lib.hid hbU
          have H9 := Lib.hid h9
          have HZ := Lib.hid (show (!rightS x) = standsF ex x (on.take 0) by simp [standsF])
          generalize (!rightS x) = zz at *
          generalize rightS x = rx at *
          have HALL := Lib.hid hall
          generalize wq.heap.size = g9 at *
          have z9 := (Array.getElem?_eq_some_iff.1 h9).1
          clear c0 c1 hbl hb HBQ h9 hbU HB hb5 h5c h5f h5z hx hall HR
          go_loopw [12, 64] (fun q i wv => ∃ k : Nat, k ≤ m4 ∧ i = .int .i64 (k : Nat) ∧ q = .bool (standsF ex x (on.take k)) ∧ Below w5.heap.size w5 wv) (fun _ i _ => m4 - (intOf i).toNat)
          case atStart => exact ⟨0, Nat.zero_le _, rfl, by rw [HZ.out], Below.refl _ _⟩
          case round =>
            rename World => wv
            obtain ⟨i, hi, rfl, rfl, hbv⟩ := hrel
            have hbv4 : Below w4.heap.size w4 wv := bthen HBU.out hbv
            by_cases hlti : i < m4
            · obtain ⟨y, hy⟩ : ∃ y, on[i]? = some y := ⟨_, List.getElem?_eq_getElem (by rw [HS4.out.len]; omega)⟩
              have hwy := HS4.out.wf y (List.mem_of_getElem? hy)
              have HO := Lib.hid (fun W hW => HOV.out x y hwx hwy W hW)
              have HSN := Lib.hid (show standsF ex x (on.take (i + 1)) = (standsF ex x (on.take i) || overS ex x y) from by rw [take_snoc hy, stands_snoc])
              obtain ⟨b', o', ha', hbl, e0, e1⟩ := set_cells (HS4.out.has.below hbv4) hy
              subst ha'
              have h9v := (hbv.block _ z9).trans H9.out
              have q9 := fun o => cell_of_heap h9v o
              have l9 := (Array.getElem?_eq_some_iff.1 h9v).1
              have HBV := Lib.hid hbv4
              have HBV2 := Lib.hid hbv
              generalize standsF ex x (on.take i) = st at *
              generalize overS ex x y = ov at *
              clear hy hwy h9v hbv hbv4
              cases st with
              | true =>
                rw [Bool.true_or] at HSN
                go_wp2_with fail
                go_roundw
                case rel => exact ⟨i + 1, hlti, by go_num, by rw [HSN.out], balloc HBV2.out _⟩
                case measure => simp [intOf]; omega
              | false =>
                rw [Bool.false_or] at HSN
                go_wp2_with (first | (go_at_call 24; (with_reducible refine (HO.out _ (by exact balloc HBV.out _)).mono ?_); rintro e w6 ⟨rfl, hb6⟩; have h6c := bc hb6; have h6f := bf hb6; have h6z := hb6.size; try simp only [World.size_alloc, World.size_drew] at h6z))
                go_roundw
                case rel => exact ⟨i + 1, hlti, by go_num, by rw [HSN.out], bthen (balloc HBV2.out _) hb6⟩
                case measure => simp [intOf]; omega
            · obtain rfl : m4 = i := by omega
              have htk : on.take m4 = on := List.take_of_length_le (by rw [HS4.out.len]; exact Nat.le_refl _)
              rw [htk, HALL.out]
              clear htk
              go_wp2_with fail
              go_roundw
              case rel => exact ⟨k + 1, hlt2, by go_num, hbv4⟩
              case measure => simp [intOf]; omega
        · obtain rfl : k = n := by omega
          go_wp2_with fail
          go_ret
          exact ⟨rfl, by rw [HG2.out]; exact HBW.out.trans (hb.mono (Nat.le_of_lt z2))⟩

open Go.ChangeShapes Go.WideShapes Go.ChangeAt Go.RowKit
open Go.ChangeMaps (open_string shut_string)

set_option maxRecDepth 100000 in
theorem pickOne_walks (H : Type) (enc : TypeId × Value → H) : Walks H enc 8 [42] := by
  intro W base args ds p hval hA _
  obtain ⟨v0, vs0, d0, ds0, p0, q0, hargs, rfl, rfl, h0, r0⟩ := trodAll_cons hA
  obtain ⟨rfl, rfl, rfl⟩ := trodAll_nil r0
  obtain rfl : args = #[v0] := by cases args; simp_all
  obtain ⟨a, n, c, l, ka, kn, kc, ks, xa, xn, xc, xs, rfl, hC⟩ := open_case (hval 0 42 v0 rfl rfl) h0
  exact pickOne_walk a n c l ka kn kc ks xa xn xc xs W hC

set_option maxRecDepth 100000 in
theorem pickOne_lifted (os : Os) (started : os.Started) (H : Type) (enc : TypeId × Value → H) :
    ReturnsInHanded {} Try.checked os 8 .any (Rows.pickOneSpec.pre6 enc Try.prog Try.f8 Rows.pickOneRow.domain false) (Rows.pickOneSpec.post enc Try.prog Try.f8 false true false false) :=
  lift_law (s := Rows.pickOneSpec) (fn := Try.f8) started (by kernel_rfl) Try.func8
    (ChangeSpec.witness6 (enc := enc) (C := Try.checked) false ⟨#[], #[.agg #[.slice none 0 0, .slice none 0 0, .slice none 0 0]], []⟩ 8 (by kernel_rfl) (by kernel_rfl) (by kernel_rfl) (by kernel_rfl))
    rfl rfl (fun ds h => by match ds, h with | [d0], _ => rfl) (by intro t ht; simp [Try.params8] at ht; first | (subst ht; exact ⟨by kernel_rfl, of_decide_eq_true (by kernel_rfl)⟩) | (obtain rfl | rfl := ht <;> exact ⟨by kernel_rfl, of_decide_eq_true (by kernel_rfl)⟩) | (obtain rfl | rfl | rfl := ht <;> exact ⟨by kernel_rfl, of_decide_eq_true (by kernel_rfl)⟩) | (obtain rfl | rfl | rfl | rfl := ht <;> exact ⟨by kernel_rfl, of_decide_eq_true (by kernel_rfl)⟩))
    (by rw [Try.params8]; exact pickOne_walks H enc)
theorem pickOne_over : Rows.pickOneRow.holds Try.pinned (OpenSpec.ofChange Rows.pickOneSpec) :=
  OpenClaim.holds_of_wide 8 Try.f8 rfl rfl rfl rfl rfl rfl rfl ⟨rfl, rfl, rfl, rfl, rfl⟩ rfl rfl rfl rfl rfl (by kernel_rfl) Try.func8 (by kernel_rfl)
    (of_decide_eq_true (by kernel_rfl)) (by unfold Func.isWrapper; first | (rw [if_pos (by decide +kernel)]; kernel_rfl) | (rw [if_neg (by decide +kernel)]; exact ⟨rfl, rfl⟩))
    (fun os started H enc _ => pickOne_lifted os started H enc)
theorem pickOne_proved : Rows.PickOneSaid := pickOne_over
#print axioms pickOne_proved
end Go.Proofs.Ytfnghinefbmlmaa
