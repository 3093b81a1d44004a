
/- LineOwn returns true for every line of glyphs, and changes nothing: a line has glyphs of its own, so what becomes of what was handed in, or answered, changes nothing. No condition beside the row's own. -/
import Derived.Test.YtjkddbbjbfajaaaGSpeak
import Derived.Test.YtjkddbbjbfajaaaGFrame
namespace Go.Proofs.Ytjkddbbjbfajaaa
open Go.RowKit Go.Lib

set_option maxHeartbeats 3200000 in
set_option maxRecDepth 100000 in
theorem lineOwn_walk (a : Option Addr) (n c : Nat) (l : List (Int × Int)) (w : World) (h : Has w a (gv l)) (hl : l.length = n) (hA : a = none → c = 0) :
    Calls Try.prog 5 #[.slice a n c] w fun e w' => e = .returned (.bool true) ∧ Below w.heap.size w w' := by
  have hAC := allocC
  have hAF := allocF
  have HSP := Lib.hid (fun W => speaks11_any W)
  have HH := Lib.hid h
  have HL := Lib.hid hl
  have HA := Lib.hid hA
  clear h hl hA
  by_cases hbig : 60 < n
  · have d1 : decide (60 < (n : Int)) = true := by simp; omega
    go_enter Try.func5, Try.ntmps5
    go_wp2_with (first | (go_at_call 7; (with_reducible refine (HSP.out _).mono ?_); rintro e w1 ⟨rfl, hb1⟩; have h1c := bc hb1; have h1f := bf hb1; have h1z := hb1.size; try simp only [World.size_alloc, World.size_drew] at h1z))
    go_ret
    exact ⟨rfl, blw⟩
  have d1 : decide (60 < (n : Int)) = false := by simp; omega
  go_enter Try.func5, Try.ntmps5
  go_wp2_with (first
    | (go_at_call 7; (with_reducible refine (HSP.out _).mono ?_); rintro e w1 ⟨rfl, hb1⟩; have h1c := bc hb1; have h1f := bf hb1; have h1z := hb1.size; try simp only [World.size_alloc, World.size_drew] at h1z)
    | (at_builtin; refine wpAppG rfl _ _ rfl w1.heap.size _ [] l rfl (GRow.lit w1 [] _ (Nat.le_refl _) (Nat.zero_le _) #[] rfl) a n c rfl HL.out (HH.out.below (balloc hb1 _)) HA.out (by simp; omega) (by simp) ?_; intro a2 c2 w2 hg2 hb2 _; rw [List.length_nil, Nat.zero_add, List.nil_append] at *; have HO2 := Lib.hid (hg2.own HL.out); have HB2 := Lib.hid (show Below w1.heap.size w1 w2 from (balloc (brefl w1) _).trans hb2); clear hg2 hb2)
    | (go_at_call 16; (with_reducible refine (gof_any a2 n c2 l w2 (has_of_owns HO2.out) HL.out (by omega)).mono ?_); rintro e w3 ⟨g, a3, c3, rfl, hG, hgg, hb3⟩; have HG3 := Lib.hid hG; have HO3 := Lib.hid (owns_below HO2.out hb3 (Nat.le_refl _)); have HB3 := Lib.hid hb3; clear hG hb3)
    | (go_at_call 13; (with_reducible refine (gglyphs_any _ g a3 c3 l w3 HG3.out (by rw [HL.out]; omega)).mono ?_); rintro e w4 ⟨a4, c4, rfl, ho, _, _, _, hb4⟩; rw [HL.out] at ho; rw [HL.out]; have HM4 := Lib.hid ho; have HG4 := Lib.hid (HG3.out.below hb4); have HO4 := Lib.hid (owns_below HO3.out hb4 (Nat.le_refl _)); have HB4 := Lib.hid hb4; clear ho hb4))
  have hz2 : w1.heap.size ≤ w2.heap.size := HB2.out.size
  have hz3 : w2.heap.size ≤ w3.heap.size := HB3.out.size
  have hz4 : w3.heap.size ≤ w4.heap.size := HB4.out.size
  have HA2 := Lib.hid (fun k (hk : (Value.slice a2 n c2).ownBlock = some k) => HO2.out.lt k hk)
  have hg3 : g < w3.heap.size := (Array.getElem?_eq_some_iff.1 HG3.out.hd).1
  have HA3 := Lib.hid (fun k (hk : (Value.slice a3 l.length c3).ownBlock = some k) => HG3.out.row.lt k hk)
  have HBW := Lib.hid (hb1.trans ((HB2.out.trans ((HB3.out.mono hz2).trans (HB4.out.mono (by omega)))).mono h1z))
  clear HO2 HO3 HG3 HB2 HB3 HB4 h1c h1f hb1 hAC hAF HSP
  go_loopw [22] (fun i wr => ∃ j : Nat, j ≤ n ∧ i = .int .i64 (j : Nat) ∧ (∃ l' : List (Int × Int), l'.length = n ∧ wr.ownsRow w1.heap.size 38 2 (.slice a2 n c2) n (gv l')) ∧ GIs w2.heap.size g a3 c3 l wr ∧ wr.ownsRow w3.heap.size 38 2 (.slice a4 n c4) n (gv l) ∧ Below w.heap.size w wr) (fun i _ => n - (intOf i).toNat)
  case atStart => exact ⟨0, Nat.zero_le _, rfl, ⟨l, HL.out, HO4.out⟩, HG4.out, HM4.out, HBW.out⟩
  case round =>
    obtain ⟨j, hj, rfl, ⟨l', hl', ho⟩, hg, hm, hb⟩ := hrel
    have HG5 := Lib.hid hg
    have HM5 := Lib.hid hm
    have HB5 := Lib.hid hb
    clear HG4 HM4 HO4 hg hm hb
    by_cases hlt : j < n
    · obtain ⟨k, p, rfl, hBk, hkw, hp, hc1, hc2, hf1, hf2, hs1, hs2⟩ := grow_at ho hl' hlt
      have hk2 : k < w2.heap.size := (HA2.out k rfl).2
      have hkg : k ≠ g := by omega
      have hk3 : some k ≠ a3.map (·.block) := fun e => by
        cases a3 with
        | none => cases e
        | some q => (have e : k = q.block := (by simpa using e)); have := (HA3.out q.block rfl).1; omega
      have hk4 : some k ≠ (Value.slice a4 n c4).ownBlock := fun e => by have := HM5.out.lt k e.symm; omega
      have HS := Lib.hid (fun x => hs1 x)
      have HG6 := Lib.hid (fun x => HG5.out.other (o := j * 2) hkg hk3 (.int .i64 x))
      have HM6 := Lib.hid (fun x => set_owns (o := j * 2) (.int .i64 x) HM5.out hk4)
      have HB6 := Lib.hid (fun x => HB5.out.setCell (p := ⟨k, j * 2, none⟩) (by show w.heap.size ≤ k; omega) (.int .i64 x))
      have HLL := Lib.hid hl'
      clear hs1 hs2 ho hl' hp
      go_wp2_with fail
      go_roundw
      case rel => exact ⟨j + 1, hlt, by go_num, ⟨_, by rw [List.length_set]; exact HLL.out, HS.out _⟩, HG6.out _, HM6.out _, HB6.out _⟩
      case measure => simp [intOf]; omega
    · obtain rfl : n = j := by omega
      clear ho hl'
      go_wp2_with fail
      go_loopw [36] (fun i wq => ∃ j : Nat, j ≤ n ∧ i = .int .i64 (j : Nat) ∧ (∃ l' : List (Int × Int), l'.length = n ∧ wq.ownsRow w3.heap.size 38 2 (.slice a4 n c4) n (gv l')) ∧ GIs w2.heap.size g a3 c3 l wq ∧ Below w.heap.size w wq) (fun i _ => n - (intOf i).toNat)
      case atStart => exact ⟨0, Nat.zero_le _, rfl, ⟨l, HL.out, HM5.out⟩, HG5.out, HB5.out⟩
      case round =>
        obtain ⟨j, hj, rfl, ⟨l', hl', ho⟩, hg, hb⟩ := hrel
        rename World => wq
        have HG6 := Lib.hid hg
        have HB6 := Lib.hid hb
        clear HG5 HM5 HB5 hg hb
        by_cases hlt : j < n
        · obtain ⟨k, p, rfl, hBk, hkw, hp, hc1, hc2, hf1, hf2, hs1, hs2⟩ := grow_at ho hl' hlt
          have hkg : k ≠ g := by omega
          have hk3 : some k ≠ a3.map (·.block) := fun e => by
            cases a3 with
            | none => cases e
            | some q => (have e : k = q.block := (by simpa using e)); have := (HA3.out q.block rfl).2; omega
          have HS := Lib.hid (fun x => hs2 x)
          have HG7 := Lib.hid (fun x => HG6.out.other (o := j * 2 + 1) hkg hk3 (.int .i64 x))
          have HB7 := Lib.hid (fun x => HB6.out.setCell (p := ⟨k, j * 2 + 1, none⟩) (by show w.heap.size ≤ k; omega) (.int .i64 x))
          have HLL := Lib.hid hl'
          clear hs1 hs2 ho hl' hp
          go_wp2_with fail
          go_roundw
          case rel => exact ⟨j + 1, hlt, by go_num, ⟨_, by rw [List.length_set]; exact HLL.out, HS.out _⟩, HG7.out _, HB7.out _⟩
          case measure => simp [intOf]; omega
        · obtain rfl : n = j := by omega
          clear ho hl'
          go_wp2_with (first
            | (go_at_call 13; (with_reducible refine (gglyphs_any _ g a3 c3 l _ HG6.out (by rw [HL.out]; omega)).mono ?_); rintro e w7 ⟨a7, c7, rfl, ho, _, _, _, hb7⟩; rw [HL.out] at ho; rw [HL.out]; have HM7 := Lib.hid ho; have HB7 := Lib.hid hb7; clear ho hb7)
            | (go_at_call 12; (with_reducible refine (refSameG_any a7 a n c7 n c l l w7 (has_of_owns HM7.out) HL.out ((HH.out.below HB6.out).below HB7.out) HL.out (by omega) (by omega)).mono ?_); rintro e w8 ⟨rfl, hb8⟩; have HB8 := Lib.hid hb8; clear hb8))
          go_ret
          refine ⟨by simp, HB6.out.trans (((HB7.out).trans (HB8.out.mono HB7.out.size)).mono HB6.out.size)⟩

open Go.ChangeShapes Go.WideShapes Go.ChangeAt Go.RowKit
open Go.ChangeMaps (open_string shut_string)

set_option maxRecDepth 100000 in
theorem lineOwn_walks (H : Type) (enc : TypeId × Value → H) : Walks H enc 5 [28] := by
  intro W base args ds p hval hA _
  obtain ⟨v0, vs0, d0, ds0, p0, q0, hargs, rfl, rfl, h0, r0⟩ := trodAll_cons hA
  obtain ⟨rfl, rfl, rfl⟩ := trodAll_nil r0
  obtain rfl : args = #[v0] := by cases args; simp_all
  obtain ⟨a, n, c, l, rfl, hl, _, _, hn, hh⟩ := open_glyphs (hval 0 28 v0 rfl rfl) h0
  exact lineOwn_walk a n c l W hh hl hn

set_option maxRecDepth 100000 in
theorem lineOwn_lifted (os : Os) (started : os.Started) (H : Type) (enc : TypeId × Value → H) :
    ReturnsInHanded {} Try.checked os 5 .any (Rows.lineOwnSpec.pre6 enc Try.prog Try.f5 Rows.lineOwnRow.domain false) (Rows.lineOwnSpec.post enc Try.prog Try.f5 false true false false) :=
  lift_law (s := Rows.lineOwnSpec) (fn := Try.f5) started (by kernel_rfl) Try.func5
    (ChangeSpec.witness6 (enc := enc) (C := Try.checked) false ⟨#[], #[.slice none 0 0], []⟩ 8 (by kernel_rfl) (by kernel_rfl) (by kernel_rfl) (by kernel_rfl))
    rfl rfl (fun ds h => by match ds, h with | [d0], _ => rfl) (by intro t ht; simp [Try.params5] at ht; first | (subst ht; exact ⟨by kernel_rfl, of_decide_eq_true (by kernel_rfl)⟩) | (obtain rfl | rfl := ht <;> exact ⟨by kernel_rfl, of_decide_eq_true (by kernel_rfl)⟩) | (obtain rfl | rfl | rfl := ht <;> exact ⟨by kernel_rfl, of_decide_eq_true (by kernel_rfl)⟩) | (obtain rfl | rfl | rfl | rfl := ht <;> exact ⟨by kernel_rfl, of_decide_eq_true (by kernel_rfl)⟩))
    (by rw [Try.params5]; exact lineOwn_walks H enc)
theorem lineOwn_over : Rows.lineOwnRow.holds Try.pinned (OpenSpec.ofChange Rows.lineOwnSpec) :=
  OpenClaim.holds_of_wide 5 Try.f5 rfl rfl rfl rfl rfl rfl rfl ⟨rfl, rfl, rfl, rfl, rfl⟩ rfl rfl rfl rfl rfl (by kernel_rfl) Try.func5 (by kernel_rfl)
    (of_decide_eq_true (by kernel_rfl)) (by unfold Func.isWrapper; first | (rw [if_pos (by decide +kernel)]; kernel_rfl) | (rw [if_neg (by decide +kernel)]; exact ⟨rfl, rfl⟩))
    (fun os started H enc _ => lineOwn_lifted os started H enc)
theorem lineOwn_proved : Rows.LineOwnSaid := lineOwn_over
#print axioms lineOwn_proved
end Go.Proofs.Ytjkddbbjbfajaaa
