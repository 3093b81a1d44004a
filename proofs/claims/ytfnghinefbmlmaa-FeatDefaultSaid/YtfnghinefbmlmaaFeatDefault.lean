
/- What is on at first is one of the settings, where a feature is exclusive, or none, for any bytes. No condition but those of the statement. -/
import Derived.Test.YtfnghinefbmlmaaFeatZ
import Derived.Test.YtfnghinefbmlmaaFrame
namespace Go.Proofs.Ytfnghinefbmlmaa
open Go.RowKit Go.Lib
def inB (sb : List UInt8) (df : Int) (x : Nat) : Bool := (List.range x).any fun y => (((num sb (4 * y) 2 : Nat) : Int) == df)
theorem inB_succ (sb : List UInt8) (df : Int) (x : Nat) : inB sb df (x + 1) = (inB sb df x || (((num sb (4 * x) 2 : Nat) : Int) == df)) := by
  unfold inB
  rw [List.range_succ, List.any_append]
  simp
theorem dfF_no {sb : List UInt8} {m fl : Nat} (h : bt fl 15 = false) : dfF sb m fl = -1 := by unfold dfF; rw [h]; rfl
theorem dfF_in {sb : List UInt8} {m fl : Nat} (h : dfF sb m fl ≠ -1) : inB sb (dfF sb m fl) m = true := by
  unfold dfF at h ⊢
  split at h
  · rename_i hb
    rw [if_pos hb]
    unfold firstF at h ⊢
    split at h
    · rename_i hp
      rw [if_pos hp]
      unfold inB
      rw [List.any_eq_true]
      exact ⟨placeF fl, by simpa using hp, by simp⟩
    · exact absurd rfl h
  · exact absurd rfl h
set_option maxRecDepth 100000 in
set_option maxHeartbeats 1600000 in
theorem featDefault_walk (a : Option Addr) (n c : Nat) (bs : List UInt8) (w : World) (h : Has w a (bytesV bs)) (hl : bs.length = n) (hn : n ≤ c) (hc : c ≤ maxLen) :
    Calls Try.prog 4 #[.slice a n c] w fun e w' => e = .returned (.bool true) ∧ Below w.heap.size w w' := by
  have hAC := allocC
  have hAF := allocF
  have HSP := Lib.hid (fun W => speaks8_any W)
  by_cases hbig : 2000 < n
  · have d1 : decide (2000 < (n : Int)) = true := by simp; omega
    clear h hl
    go_enter Try.func4, Try.ntmps4
    go_wp2_with (first | (go_at_call 11; (with_reducible refine (HSP.out _).mono ?_); rintro e w1 ⟨rfl, hb1⟩; have h1c := bc hb1; have h1f := bf hb1; have h1z := hb1.size; try simp only [World.size_alloc, World.size_drew] at h1z))
    go_ret
    exact ⟨rfl, blw⟩
  have d1 : decide (2000 < (n : Int)) = false := by simp; omega
  have HR := Lib.hid (fun W (hW : Below w.heap.size w W) => fread_any a n c bs W (h.below hW) hl hn hc)
  clear h hl
  go_enter Try.func4, Try.ntmps4
  go_wp2_with (first | (go_at_call 11; (with_reducible refine (HSP.out _).mono ?_); rintro e w1 ⟨rfl, hb1⟩; have h1c := bc hb1; have h1f := bf hb1; have h1z := hb1.size; try simp only [World.size_alloc, World.size_drew] at h1z))
  have HB1 := Lib.hid hb1
  refine (HR.out _ hb1).mono ?_
  rintro e w2 ⟨(⟨g, hs, _, rfl, hm⟩ | ⟨_, rfl⟩), hb2⟩
  case inr =>
    have HB2 := Lib.hid (HB1.out.trans (hb2.mono HB1.out.size))
    clear hb2 hb1 h1c h1f
    go_wp2_with fail
    go_loopw [22] (fun i wr => i = .int .i64 0 ∧ Below w2.heap.size w2 wr) (fun _ _ => 0)
    case atStart => exact ⟨rfl, Below.refl _ _⟩
    case round =>
      obtain ⟨rfl, hb⟩ := hrel
      have HBR := Lib.hid hb
      clear hb
      go_wp2_with fail
      go_ret
      exact ⟨rfl, HB2.out.trans (HBR.out.mono HB2.out.size)⟩
  have HB2 := Lib.hid (HB1.out.trans (hb2.mono HB1.out.size))
  have HM := Lib.hid hm
  have hN := num2_lt bs 4
  have HLN := Lib.hid hm.len
  clear hb2 hb1 h1c h1f hm
  generalize hNN : num bs 4 2 = N at *
  have HNN := Lib.hid hNN
  clear hNN
  go_wp2_with fail
  go_loopw [22] (fun i wr => ∃ j : Nat, j ≤ N ∧ i = .int .i64 (j : Nat) ∧ Below w2.heap.size w2 wr) (fun i _ => N - (intOf i).toNat)
  case atStart => exact ⟨0, Nat.zero_le _, rfl, Below.refl _ _⟩
  case round =>
    obtain ⟨j, hj, rfl, hb⟩ := hrel
    have HBR := Lib.hid hb
    have hmr := HM.out.below hb
    clear hb
    by_cases hlt : j < N
    · obtain ⟨h, hh⟩ : ∃ h, hs[j]? = some h := ⟨_, List.getElem?_eq_getElem (by rw [HLN.out]; exact hlt)⟩
      have hrow := hmr.row
      have hset := hmr.is.each j h hh
      rw [HNN.out] at hrow
      have hg := ftV_get bs hs 0 j h hh
      rw [Nat.zero_add] at hg
      have e0 : wr.cell? ⟨g, j * 4, none⟩ = some (.int .i64 (fTy bs j : Nat)) := own_at hrow (hg 0 (by omega))
      have e1 : wr.cell? ⟨g, j * 4 + 1, none⟩ = some (.bool (bt (fFl bs j) 15)) := own_at hrow (hg 1 (by omega))
      have e2 : wr.cell? ⟨g, j * 4 + 2, none⟩ = some (.int .i64 (dfF (fSb bs j) (fMany bs j) (fFl bs j))) := own_at hrow (hg 2 (by omega))
      have e3 : wr.cell? ⟨g, j * 4 + 3, none⟩ = some (.slice (some ⟨h, 0, none⟩) (fMany bs j) (fMany bs j)) := own_at hrow (hg 3 (by omega))
      have HNO := Lib.hid (fun hx => dfF_no (sb := fSb bs j) (m := fMany bs j) (fl := fFl bs j) hx)
      have HIN := Lib.hid (fun hx => dfF_in (sb := fSb bs j) (m := fMany bs j) (fl := fFl bs j) hx)
      have hmn : fMany bs j ≤ 65535 := num2_lt _ _
      have lg := cell_lt e0
      simp only at lg
      have lh : h < wr.heap.size := (hset.lt _ rfl).2
      have HSET := Lib.hid hset
      clear hg hrow hset hmr hh
      generalize dfF (fSb bs j) (fMany bs j) (fFl bs j) = df at *
      generalize bt (fFl bs j) 15 = ex at *
      generalize fTy bs j = ty at *
      generalize fSb bs j = sb at *
      generalize fMany bs j = m at *
      go_wp2_with fail
      obtain ⟨U, hU⟩ : ∃ U, U = wr.alloc (Obj.cells #[.int .i64 (ty : Nat), .bool ex, .int .i64 df, .slice (some ⟨h, 0, none⟩) m m] 36) := ⟨_, rfl⟩
      have h6 : U.heap[wr.heap.size]? = some (.cells #[.int .i64 (ty : Nat), .bool ex, .int .i64 df, .slice (some ⟨h, 0, none⟩) m m] 36 (0, 0)) := by rw [hU, heap_push, if_pos rfl]
      have hbU : Below wr.heap.size wr U := by rw [hU]; exact balloc (brefl _) _
      have HSU := Lib.hid (owns_below HSET.out hbU (Nat.le_refl _))
      have HBU := Lib.hid (HBR.out.trans (hbU.mono HBR.out.size))
      rw [← hU]
      have lhU : h < U.heap.size := by have := hbU.size; omega
      generalize wr.heap.size = g6 at *
      have l6 := (Array.getElem?_eq_some_iff.1 h6).1
      have H6 := Lib.hid h6
      clear hU hbU h6 e0 e1 e2 e3 lg lh HSET HBR
      go_loopw [7, 29] (fun b i wv => ∃ x : Nat, x ≤ m ∧ i = .int .i64 (x : Nat) ∧ b = .bool (inB sb df x) ∧ Below U.heap.size U wv) (fun _ i _ => m - (intOf i).toNat)
      case atStart => exact ⟨0, Nat.zero_le _, rfl, rfl, Below.refl _ _⟩
      case round =>
        rename World => wv
        obtain ⟨x, hx, rfl, rfl, hbv⟩ := hrel
        have HBV := Lib.hid hbv
        have h6v := (hbv.block g6 l6).trans H6.out
        have q6 := fun o => cell_of_heap h6v o
        have l6v := (Array.getElem?_eq_some_iff.1 h6v).1
        have hov := owns_below HSU.out hbv (Nat.le_refl _)
        clear hbv h6v
        by_cases hltx : x < m
        · have ex0 := own_at hov (setV_get sb m x hltx)
          clear hov
          have lhv := cell_lt ex0
          simp only at lhv
          cases hB1 : inB sb df x with
          | true =>
            have HI := Lib.hid (show inB sb df (x + 1) = true from by rw [inB_succ, hB1]; rfl)
            clear hB1
            generalize num sb (4 * x) 2 = v at *
            go_wp2_with fail
            go_roundw
            case rel => exact ⟨x + 1, hltx, by go_num, by rw [HI.out], HBV.out⟩
            case measure => simp [intOf]; omega
          | false =>
            have HI := Lib.hid (show inB sb df (x + 1) = (((num sb (4 * x) 2 : Nat) : Int) == df) from by rw [inB_succ, hB1]; rfl)
            clear hB1
            generalize num sb (4 * x) 2 = v at *
            go_wp2_with fail
            go_roundw
            case rel => exact ⟨x + 1, hltx, by go_num, by rw [HI.out], HBV.out⟩
            case measure => simp [intOf]; omega
        · obtain rfl : m = x := by omega
          have HBX := Lib.hid (HBU.out.trans (HBV.out.mono HBU.out.size))
          clear hov
          cases ex with
          | false =>
            obtain rfl : df = -1 := HNO.out rfl
            generalize inB sb (-1) m = b1 at *
            go_wp2_with fail
            go_roundw
            case rel => exact ⟨j + 1, hlt, by go_num, HBX.out⟩
            case measure => simp [intOf]; omega
          | true =>
            by_cases hd : df = -1
            · subst hd
              generalize inB sb (-1) m = b1 at *
              go_wp2_with fail
              go_roundw
              case rel => exact ⟨j + 1, hlt, by go_num, HBX.out⟩
              case measure => simp [intOf]; omega
            · have hd1 : (df == -1) = false := by simpa using hd
              have hd2 : (df != -1) = true := by simp [bne, hd1]
              rw [HIN.out hd]
              clear hd
              go_wp2_with fail
              go_roundw
              case rel => exact ⟨j + 1, hlt, by go_num, HBX.out⟩
              case measure => simp [intOf]; omega
    · obtain rfl : N = j := by omega
      go_wp2_with fail
      go_ret
      exact ⟨rfl, HB2.out.trans (HBR.out.mono HB2.out.size)⟩

open Go.ChangeShapes Go.WideShapes Go.ChangeAt Go.RowKit
open Go.ChangeMaps (open_string shut_string)

set_option maxRecDepth 100000 in
theorem featDefault_walks (H : Type) (enc : TypeId × Value → H) : Walks H enc 4 [32] := by
  intro W base args ds p hval hA _
  obtain ⟨v0, vs0, d0, ds0, p0, q0, hargs, rfl, rfl, h0, r0⟩ := trodAll_cons hA
  obtain ⟨rfl, rfl, rfl⟩ := trodAll_nil r0
  obtain rfl : args = #[v0] := by cases args; simp_all
  obtain ⟨a0, n0, c0, x0, rfl, e0, f0, g0, j0, k0⟩ := open_bytes Try.underlying32 Try.underlying5 (by kernel_rfl) (hval 0 32 v0 rfl rfl) h0
  exact featDefault_walk a0 n0 c0 x0 W e0 f0 g0 j0

set_option maxRecDepth 100000 in
theorem featDefault_lifted (os : Os) (started : os.Started) (H : Type) (enc : TypeId × Value → H) :
    ReturnsInHanded {} Try.checked os 4 .any (Rows.featDefaultSpec.pre6 enc Try.prog Try.f4 Rows.featDefaultRow.domain false) (Rows.featDefaultSpec.post enc Try.prog Try.f4 false true false false) :=
  lift_law (s := Rows.featDefaultSpec) (fn := Try.f4) started (by kernel_rfl) Try.func4
    (ChangeSpec.witness6 (enc := enc) (C := Try.checked) false ⟨#[], #[.slice none 0 0], []⟩ 8 (by kernel_rfl) (by kernel_rfl) (by kernel_rfl) (by kernel_rfl))
    rfl rfl (fun ds h => by match ds, h with | [d0], _ => rfl) (by intro t ht; simp [Try.params4] at ht; first | (subst ht; exact ⟨by kernel_rfl, of_decide_eq_true (by kernel_rfl)⟩) | (obtain rfl | rfl := ht <;> exact ⟨by kernel_rfl, of_decide_eq_true (by kernel_rfl)⟩) | (obtain rfl | rfl | rfl := ht <;> exact ⟨by kernel_rfl, of_decide_eq_true (by kernel_rfl)⟩) | (obtain rfl | rfl | rfl | rfl := ht <;> exact ⟨by kernel_rfl, of_decide_eq_true (by kernel_rfl)⟩))
    (by rw [Try.params4]; exact featDefault_walks H enc)
theorem featDefault_over : Rows.featDefaultRow.holds Try.pinned (OpenSpec.ofChange Rows.featDefaultSpec) :=
  OpenClaim.holds_of_wide 4 Try.f4 rfl rfl rfl rfl rfl rfl rfl ⟨rfl, rfl, rfl, rfl, rfl⟩ rfl rfl rfl rfl rfl (by kernel_rfl) Try.func4 (by kernel_rfl)
    (of_decide_eq_true (by kernel_rfl)) (by unfold Func.isWrapper; first | (rw [if_pos (by decide +kernel)]; kernel_rfl) | (rw [if_neg (by decide +kernel)]; exact ⟨rfl, rfl⟩))
    (fun os started H enc _ => featDefault_lifted os started H enc)
theorem featDefault_proved : Rows.FeatDefaultSaid := featDefault_over
#print axioms featDefault_proved
end Go.Proofs.Ytfnghinefbmlmaa
