
/- The walk of ChainCuts. ChainCuts returns true for every list of chains and every cut, and changes nothing: a table of chains that lacks its last byte, or more, within its chains, is none. No condition beside the row's own. -/
import Derived.Test.YthehcbbdkiomnaaJ01
import Derived.Test.YthehcbbdkiomnaaJ09
import Derived.Test.YthehcbbdkiomnaaJ05
namespace Go.Proofs.Ythehcbbdkiomnaa
open Go.RowKit Go.Lib

set_option maxRecDepth 100000 in
set_option maxHeartbeats 6400000 in
theorem chainCuts_walk (la : Option Addr) (n lc : Nat) (ps : List LCh) (cut : Nat) (w : World) (h : Has w la (lchV ps)) (hl : ps.length = n) (hok : ∀ p ∈ ps, p.Ok w) (hnc : n ≤ lc) (hcm : lc ≤ maxLen) (hcut : cut ≤ 65535) :
    Calls Try.prog 8 #[.slice la n lc, .int .u16 (cut : Nat)] w fun e w' => e = .returned (.bool true) ∧ Below w.heap.size w w' := by
  have hAC := allocC
  have hAF := allocF
  have HSP := Lib.hid (fun W (_ : Below w.heap.size w W) => speaks19_any W)
  have HBG := Lib.hid (fun W (hW : Below w.heap.size w W) => big19_any la n lc ps W (h.below hW) hl (fun p hp => (hok p hp).below hW) hnc hcm)
  have HWR := Lib.hid (fun W (hW : Below w.heap.size w W) (h10 : n ≤ 10) (hf : ∀ p ∈ ps, p.Few) => write19_any la n lc ps W (h.below hW) hl (fun p hp => (hok p hp).below hW) h10 hf)
  have HWF := Lib.hid (show ∀ p ∈ ps, p.Wf from fun p hp => (hok p hp).wf)
  have HL := Lib.hid hl
  clear h hok hl hnc hcm
  go_enter Try.func8, Try.ntmps8
  go_wp2_with (first | (go_at_call 21; (with_reducible refine (HSP.out _ (by exact blw)).mono ?_); rintro e w1 ⟨rfl, hb1⟩; have h1c := bc hb1; have h1f := bf hb1; have h1z := hb1.size; try simp only [World.size_alloc, World.size_drew] at h1z))
  have HB1 := Lib.hid hb1
  clear h1c h1f h1z
  refine (HBG.out w1 hb1).mono ?_
  rintro e w2 ⟨⟨b, rfl, hb⟩, hb2⟩
  have HB2 := Lib.hid (hb1.trans (hb2.mono hb1.size))
  clear hb1 hb2 HBG HSP
  cases b with
  | true =>
    go_wp2_with fail
    go_ret
    exact ⟨rfl, HB2.out⟩
  | false =>
    obtain ⟨h10, hf⟩ := hb rfl
    have hlen := chsL_le ps hf
    rw [HL.out] at hlen
    have hcut2 := fun m hm => chs_cut HWF.out hf (by rw [HL.out]; exact h10) m hm
    have hbl := chsB_length ps
    have hwr := HWR.out w2 HB2.out h10 hf
    obtain ⟨BS, hBS⟩ : ∃ BS, BS = chsB ps := ⟨_, rfl⟩
    rw [← hBS] at hwr hcut2 hbl
    obtain ⟨N, hN⟩ : ∃ N, N = BS.length := ⟨_, rfl⟩
    rw [← hN] at hwr hcut2 hbl
    have HN := Lib.hid hN
    have HCUT := Lib.hid hcut2
    have HW := Lib.hid hwr
    have hN8 : 8 ≤ N := by omega
    have hN5 : N ≤ 60000 := by omega
    obtain ⟨q, hq⟩ : ∃ q, q = cut % N := ⟨_, rfl⟩
    have hqN : q < N := by rw [hq]; exact Nat.mod_lt _ (by omega)
    obtain ⟨m, hm⟩ : ∃ m, m = N - (1 + q) := ⟨_, rfl⟩
    have f1 : IntKind.i64.wrap (cut : Int) = (cut : Int) := IntWalk.i64_in _ (by omega)
    have f2 : (cut : Int).tmod (N : Int) = (q : Int) := by rw [Int.tmod_eq_emod_of_nonneg (by omega), hq]; rfl
    have f3 : IntKind.i64.wrap (q : Int) = (q : Int) := IntWalk.i64_in _ (by omega)
    have f4 : IntKind.i64.wrap (1 + (q : Int)) = 1 + (q : Int) := IntWalk.i64_in _ (by omega)
    have f5 : IntKind.i64.wrap ((N : Int) - (1 + (q : Int))) = (m : Int) := by rw [IntWalk.i64_in _ (by omega)]; omega
    have d0 : ((N : Int) == 0) = false := by simp; omega
    have hmN : m < N := by omega
    clear hb hlen hcut2 hbl hwr hBS hN hq hm HWR
    go_wp2_with (go_at_call 26; (with_reducible refine HW.out.mono ?_); rintro e w3 ⟨a3, c3, rfl, ho3, k31, k32, _, hb3⟩; have HBH := Lib.hid ((bhas_of_owns (L := 0) ho3).take m); have HB3 := Lib.hid (HB2.out.trans (hb3.mono HB2.out.size)); clear ho3 hb3)
    refine (hread_any 0 a3 m c3 (BS.take m) w3 HBH.out (by rw [List.length_take, ← HN.out]; omega) (by omega) k32 (by omega) (Nat.zero_le _)).mono ?_
    rintro e w4 ⟨(⟨rs, ao, co, hck, _⟩ | ⟨_, rfl⟩), hb4⟩
    · exact absurd hck (HCUT.out m hmN)
    have HB4 := Lib.hid (HB3.out.trans (hb4.mono HB3.out.size))
    clear hb4
    go_wp2_with fail
    go_ret
    exact ⟨rfl, HB4.out⟩

open Go.ChangeShapes Go.WideShapes Go.ChangeAt Go.RowKit
open Go.ChangeMaps (open_string shut_string)

set_option maxRecDepth 100000 in
theorem chainCuts_walks (H : Type) (enc : TypeId × Value → H) : Walks H enc 8 [69, 81] := by
  intro W base args ds p hval hA _
  obtain ⟨v0, vs0, d0, ds0, p0, q0, hargs, rfl, rfl, h0, r0⟩ := trodAll_cons hA
  obtain ⟨v1, vs1, d1, ds1, p1, q1, rfl, rfl, rfl, h1, r1⟩ := trodAll_cons r0
  obtain ⟨rfl, rfl, rfl⟩ := trodAll_nil r1
  obtain rfl : args = #[v0, v1] := by cases args; simp_all
  obtain ⟨a, c, ps, rfl, hn, hc, hh, hok⟩ := open_lchs (hval 0 69 v0 rfl rfl) h0
  obtain ⟨z, rfl, hz⟩ := open_int Try.underlying81 (hval 1 81 v1 rfl rfl) h1
  obtain ⟨k, rfl, hk⟩ := wf_u16 hz
  exact chainCuts_walk a ps.length c ps k W hh rfl hok hn hc hk

set_option maxRecDepth 100000 in
theorem chainCuts_lifted (os : Os) (started : os.Started) (H : Type) (enc : TypeId × Value → H) :
    ReturnsInHanded {} Try.checked os 8 .any (Rows.chainCutsSpec.pre6 enc Try.prog Try.f8 Rows.chainCutsRow.domain false) (Rows.chainCutsSpec.post enc Try.prog Try.f8 false true false false) :=
  lift_law (s := Rows.chainCutsSpec) (fn := Try.f8) started (by kernel_rfl) Try.func8
    (ChangeSpec.witness6 (enc := enc) (C := Try.checked) false ⟨#[], #[.slice none 0 0, .int .u16 0], []⟩ 8 (by kernel_rfl) (by kernel_rfl) (by kernel_rfl) (by kernel_rfl))
    rfl rfl (fun ds h => by match ds, h with | [d0, d1], _ => rfl) (by intro t ht; simp [Try.params8] at ht; first | (subst ht; exact ⟨by kernel_rfl, of_decide_eq_true (by kernel_rfl)⟩) | (obtain rfl | rfl := ht <;> exact ⟨by kernel_rfl, of_decide_eq_true (by kernel_rfl)⟩) | (obtain rfl | rfl | rfl := ht <;> exact ⟨by kernel_rfl, of_decide_eq_true (by kernel_rfl)⟩) | (obtain rfl | rfl | rfl | rfl := ht <;> exact ⟨by kernel_rfl, of_decide_eq_true (by kernel_rfl)⟩))
    (by rw [Try.params8]; exact chainCuts_walks H enc)
theorem chainCuts_over : Rows.chainCutsRow.holds Try.pinned (OpenSpec.ofChange Rows.chainCutsSpec) :=
  OpenClaim.holds_of_wide 8 Try.f8 rfl rfl rfl rfl rfl rfl rfl ⟨rfl, rfl, rfl, rfl, rfl⟩ rfl rfl rfl rfl rfl (by kernel_rfl) Try.func8 (by kernel_rfl)
    (of_decide_eq_true (by kernel_rfl)) (by unfold Func.isWrapper; first | (rw [if_pos (by decide +kernel)]; kernel_rfl) | (rw [if_neg (by decide +kernel)]; exact ⟨rfl, rfl⟩))
    (fun os started H enc _ => chainCuts_lifted os started H enc)
theorem chainCuts_proved : Rows.ChainCutsSaid := chainCuts_over
#print axioms chainCuts_proved
end Go.Proofs.Ythehcbbdkiomnaa
