
/- WholeLookups returns true for every bytes and every number, and changes nothing: all numbers of any lookup, as it tells them, written as rows, parts, or one by one, are the same lookup. No condition beside the row's own. -/
import Derived.Test.YthepejljgolcoaaLWLaw
import Derived.Test.YthepejljgolcoaaFrame
namespace Go.Proofs.Ythepejljgolcoaa
open Go.RowKit Go.Lib

set_option maxRecDepth 100000 in
set_option maxHeartbeats 3200000 in
theorem wholeLookups_walk (a : Option Addr) (n c : Nat) (bs : List UInt8) (id : Int) (w : World) (h : Has w a (bytesV bs)) (hl : bs.length = n) (hn : n ≤ c) (hc : c ≤ maxLen) (hid : -9223372036854775808 ≤ id ∧ id ≤ 9223372036854775807) :
    Calls Try.prog 3 #[.slice a n c, .int .i64 id] w fun e w' => e = .returned (.bool true) ∧ Below w.heap.size w w' := by
  have hAC := allocC
  have hAF := allocF
  by_cases hok : n ≤ 100 ∧ ∃ rs, LkOk bs 40 2 rs
  · obtain ⟨h1, rs, hok⟩ := hok
    exact wholeLookups_some a n c bs id rs w h hl hn hc hid h1 hok
  have HNO := Lib.hid (show ¬ 100 < n → ∀ rs, ¬ LkOk bs 40 2 rs from fun h1 rs hr => hok ⟨by omega, rs, hr⟩)
  have HRD := Lib.hid (fun W hW (h1 : ¬ 100 < n) => lread_none a n c bs 40 2 40 2 rfl rfl W (h.below hW) hl hn hc (by decide) (by decide) (by decide) (HNO.out h1))
  clear h hl hok hid
  go_enter Try.func3, Try.ntmps3
  have hB : Has ((w.alloc (Obj.cells #[.bool false] 4)).alloc (Obj.cells #[.int .u8 0, .int .u8 8, .int .u8 0, .int .u8 5, .int .u8 0, .int .u8 1, .int .u8 0, .int .u8 7] 5)) (some ⟨w.heap.size + 1, 0, none⟩) [.int .u8 0, .int .u8 8, .int .u8 0, .int .u8 5, .int .u8 0, .int .u8 1, .int .u8 0, .int .u8 7] := by
    have := has_alloc (w.alloc (Obj.cells #[.bool false] 4)) #[.int .u8 0, .int .u8 8, .int .u8 0, .int .u8 5, .int .u8 0, .int .u8 1, .int .u8 0, .int .u8 7] 5
    rwa [World.size_alloc] at this
  have HLR := Lib.hid (lread5 _ _ hB)
  clear hB
  go_wp2_with fail
  refine HLR.out.mono ?_
  rintro e w1 ⟨g5, rfl, ht1, hf1, hb1⟩
  have HM1 := Lib.hid (most_any _ g5 8 _ _ w1 ht1 hf1)
  rw [show mostL (allL [7] [⟨5, 5, 0, 1⟩]) = 7 by decide] at HM1
  have c4 : w1.heap[w.heap.size]? = some (.cells #[.bool false] 4 (0, 0)) := (hb1.block _ (by simp; omega)).trans (by rw [heap_push, if_neg (by simp), heap_push, if_pos rfl])
  have HB1 := Lib.hid (bthen (balloc (balloc (brefl w) _) _) hb1)
  clear hb1 ht1 hf1 HLR
  go_wp2_with fail
  refine HM1.out.mono ?_
  rintro e w2 ⟨rfl, hb2⟩
  have C4 := (hb2.block _ (Array.getElem?_eq_some_iff.1 c4).1).trans c4
  have p4 := cell_of_heap C4 0
  have f4 := fun o => froz_of_heap C4 o
  simp only [List.getElem?_toArray, List.getElem?_cons_zero] at p4
  have hl4 := cell_lt p4
  simp only at hl4
  have HC4 := Lib.hid C4
  have HB2 := Lib.hid (bthen HB1.out hb2)
  clear hb2 c4 HM1 C4
  by_cases hbig : 100 < n
  · have d1 : decide (100 < (n : Int)) = true := by simp; omega
    go_wp2_with fail
    refine bodyPost_ret (v := .bool true) (by simp [results, Try.results3, go_sem, p4, f4]) rfl ?_
    exact ⟨rfl, HB2.out.setCell (p := ⟨w.heap.size, 0, none⟩) (Nat.le_refl _) _⟩
  have d1 : decide (100 < (n : Int)) = false := by simp; omega
  have HRR := Lib.hid (HRD.out _ HB2.out hbig)
  clear HRD
  go_wp2_with fail
  refine HRR.out.mono ?_
  rintro e w3 ⟨rfl, hb3⟩
  have C43 := (hb3.block _ (Array.getElem?_eq_some_iff.1 HC4.out).1).trans HC4.out
  have p43 := cell_of_heap C43 0
  have f43 := fun o => froz_of_heap C43 o
  simp only [List.getElem?_toArray, List.getElem?_cons_zero] at p43
  have hl43 := cell_lt p43
  simp only at hl43
  have HB3 := Lib.hid (bthen HB2.out hb3)
  clear hb3 p4 f4 hl4 C43 HRR
  go_wp2_with fail
  refine bodyPost_ret (v := .bool true) (by simp [results, Try.results3, go_sem, p43, f43]) rfl ?_
  exact ⟨rfl, HB3.out.setCell (p := ⟨w.heap.size, 0, none⟩) (Nat.le_refl _) _⟩

open Go.ChangeShapes Go.WideShapes Go.ChangeAt Go.RowKit
open Go.ChangeMaps (open_string shut_string)

set_option maxRecDepth 100000 in
theorem wholeLookups_walks (H : Type) (enc : TypeId × Value → H) : Walks H enc 3 [22, 3] := by
  intro W base args ds p hval hA _
  obtain ⟨v0, vs0, d0, ds0, p0, q0, hargs, rfl, rfl, h0, r0⟩ := trodAll_cons hA
  obtain ⟨v1, vs1, d1, ds1, p1, q1, rfl, rfl, rfl, h1, r1⟩ := trodAll_cons r0
  obtain ⟨rfl, rfl, rfl⟩ := trodAll_nil r1
  obtain rfl : args = #[v0, v1] := by cases args; simp_all
  obtain ⟨a0, n0, c0, x0, rfl, e0, f0, g0, j0, k0⟩ := open_bytes Try.underlying22 Try.underlying5 (by kernel_rfl) (hval 0 22 v0 rfl rfl) h0
  obtain ⟨z1, rfl, t1⟩ := open_int Try.underlying3 (hval 1 3 v1 rfl rfl) h1
  exact wholeLookups_walk a0 n0 c0 x0 z1 W e0 f0 g0 j0 (wf_i64 t1)

set_option maxRecDepth 100000 in
theorem wholeLookups_lifted (os : Os) (started : os.Started) (H : Type) (enc : TypeId × Value → H) :
    ReturnsInHanded {} Try.checked os 3 .any (Rows.wholeLookupsSpec.pre6 enc Try.prog Try.f3 Rows.wholeLookupsRow.domain false) (Rows.wholeLookupsSpec.post enc Try.prog Try.f3 false true false false) :=
  lift_law (s := Rows.wholeLookupsSpec) (fn := Try.f3) started (by kernel_rfl) Try.func3
    (ChangeSpec.witness6 (enc := enc) (C := Try.checked) false ⟨#[], #[.slice none 0 0, .int .i64 0], []⟩ 8 (by kernel_rfl) (by kernel_rfl) (by kernel_rfl) (by kernel_rfl))
    rfl rfl (fun ds h => by match ds, h with | [d0, d1], _ => rfl) (by intro t ht; simp [Try.params3] at ht; first | (subst ht; exact ⟨by kernel_rfl, of_decide_eq_true (by kernel_rfl)⟩) | (obtain rfl | rfl := ht <;> exact ⟨by kernel_rfl, of_decide_eq_true (by kernel_rfl)⟩) | (obtain rfl | rfl | rfl := ht <;> exact ⟨by kernel_rfl, of_decide_eq_true (by kernel_rfl)⟩) | (obtain rfl | rfl | rfl | rfl := ht <;> exact ⟨by kernel_rfl, of_decide_eq_true (by kernel_rfl)⟩))
    (by rw [Try.params3]; exact wholeLookups_walks H enc)
theorem wholeLookups_over : Rows.wholeLookupsRow.holds Try.pinned (OpenSpec.ofChange Rows.wholeLookupsSpec) :=
  OpenClaim.holds_of_wide 3 Try.f3 rfl rfl rfl rfl rfl rfl rfl ⟨rfl, rfl, rfl, rfl, rfl⟩ rfl rfl rfl rfl rfl (by kernel_rfl) Try.func3 (by kernel_rfl)
    (of_decide_eq_true (by kernel_rfl)) (by unfold Func.isWrapper; first | (rw [if_pos (by decide +kernel)]; kernel_rfl) | (rw [if_neg (by decide +kernel)]; exact ⟨rfl, rfl⟩))
    (fun os started H enc _ => wholeLookups_lifted os started H enc)
theorem wholeLookups_proved : Rows.WholeLookupsSaid := wholeLookups_over
#print axioms wholeLookups_proved
end Go.Proofs.Ythepejljgolcoaa
