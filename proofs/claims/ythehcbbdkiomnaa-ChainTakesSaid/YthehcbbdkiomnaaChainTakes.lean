
/- The walk of ChainTakes. ChainTakes returns true for whatever bytes, and changes nothing: Take takes what the document reads, and nothing else. No condition beside the row's own. -/
import Derived.Test.YthehcbbdkiomnaaJ01
import Derived.Test.YthehcbbdkiomnaaJ11
namespace Go.Proofs.Ythehcbbdkiomnaa
open Go.RowKit Go.Lib

theorem enter_ht1 (args : Array Value) (w : World) : (callFunc 29 args).run Try.prog w = .ok (.enter 29 args) w := by kernel_rfl
set_option maxRecDepth 100000 in
set_option maxHeartbeats 1600000 in
theorem ht1_any (L B : Nat) (a : Option Addr) (n c : Nat) (bs : List UInt8) (g0 g1 : Nat) (x : Value) (w : World) (h : 0 < bs.length → BHas L a bs w) (hl : bs.length = n) (hn : n ≤ c) (hc : c ≤ maxLen) (hsz : n ≤ 100000000) (hLw : L ≤ w.heap.size) (hB : B ≤ g1) (hL : L ≤ g1)
    (c0 : w.cell? ⟨g0, 0, none⟩ = some (.slice a n c)) (c1 : w.heap[g1]? = some (.cells #[x] 61 (0, 0))) :
    Calls Try.prog 29 #[.pointer (some ⟨g0, 0, none⟩), .pointer (some ⟨g1, 0, none⟩)] w
      fun e w' => (e = .returned (.tuple #[]) ∧ HRead1R L B w g1 bs true w') ∨ (e = .panicked thrown ∧ HRead1R L B w g1 bs false w') := by
  have C1 := Lib.hid c1
  have l0 := cell_lt c0
  have l1 := (Array.getElem?_eq_some_iff.1 c1).1
  simp only at l0
  have HT := Lib.hid (fun W (hW : Below w.heap.size w W) => htake_any L a n c bs W (fun h0 => (h h0).below hW) hl hn hc hsz (Nat.le_trans hLw hW.size))
  clear h hl c1
  go_enter Try.func29, Try.ntmps29
  go_wp2_with (first | (go_at_call 31; (with_reducible refine (of_any _ _ _ _).mono ?_); rintro e wa ⟨rfl, hba⟩; have hac := bc hba; have haf := bf hba; have haz := hba.size; try simp only [World.size_alloc, World.size_drew] at haz))
  refine (HT.out _ (by exact blw)).mono ?_
  rintro e wb ⟨(⟨rs, ao, co, hok, hd, rfl, hrow⟩ | ⟨hno, rfl⟩), hbb⟩
  case inr =>
    have HNO := Lib.hid hno
    have HBB := Lib.hid (show Below w.heap.size w wb from blw)
    clear hno hbb hba hac haf
    go_wp2_with fail
    exact ⟨rfl, .inr ⟨rfl, .inr ⟨rfl, HNO.out, HBB.out⟩⟩⟩
  have HM := Lib.hid hrow
  have HBB := Lib.hid (show Below w.heap.size w wb from blw)
  have HOK := Lib.hid hok
  have HD := Lib.hid hd
  have c1b := (HBB.out.block g1 l1).trans C1.out
  have HC1 := Lib.hid c1b
  have q1 := cell_of_heap c1b 0
  have f1 := froz_of_heap c1b 0
  have hwa : w.heap.size ≤ wa.heap.size := haz
  clear hrow hok hbb hba hac haf c1b hd
  go_wp2_with fail
  go_end0
  refine .inl ⟨rfl, .inl ⟨rfl, rs, ao, co, HOK.out, HD.out, set_heap_at _ HC1.out, ?_, (HBB.out.mono (by omega)).setCell (p := ⟨g1, 0, none⟩) hB _, by simp; exact HBB.out.size⟩⟩
  exact (HM.out.mono hwa).setOther (o := 0) HC1.out (by decide) (by decide) (by decide) (by decide) hL _
set_option maxRecDepth 100000 in
set_option maxHeartbeats 6400000 in
theorem chainTakes_walk (a : Option Addr) (n c : Nat) (bs : List UInt8) (w : World) (h : Has w a (bytesV bs)) (hl : bs.length = n) (hn : n ≤ c) (hc : c ≤ maxLen) :
    Calls Try.prog 9 #[.slice a n c] w fun e w' => e = .returned (.bool true) ∧ Below w.heap.size w w' := by
  have hAC := allocC
  have hAF := allocF
  have hmf : ∀ (fn : Fn) (first cap : Array Value) (w : World), (Instr.makeFunc fn first cap).run Try.prog w = .ok (.func fn first cap) w := fun _ _ _ _ => rfl
  have HSP := Lib.hid (fun W (_ : Below w.heap.size w W) => speaks19_any W)
  have HH := Lib.hid h
  have HL := Lib.hid hl
  by_cases h2000 : n ≤ 2000
  case neg =>
    have d1 : decide (2000 < (n : Int)) = true := by simp; omega
    clear h hl h2000
    go_enter Try.func9, Try.ntmps9
    go_wp2_with (first | (go_at_call 21; (with_reducible refine (HSP.out _ (by exact blw)).mono ?_); rintro e w1 ⟨rfl, hb1⟩; have h1c := bc hb1; have h1f := bf hb1; have h1z := hb1.size; try simp only [World.size_alloc, World.size_drew] at h1z))
    go_ret
    exact ⟨rfl, blw⟩
  have d1 : decide (2000 < (n : Int)) = false := by simp; omega
  have d2 : decide (2000 < n) = false := by simp; omega
  have HRF := Lib.hid (fun W (hW : Below w.heap.size w W) => hrefread_any a n c bs W (h.below hW) hl hn hc (by omega))
  clear h hl
  go_enter Try.func9, Try.ntmps9
  go_wp2_with (first | (go_at_call 21; (with_reducible refine (HSP.out _ (by exact blw)).mono ?_); rintro e w1 ⟨rfl, hb1⟩; have h1c := bc hb1; have h1f := bf hb1; have h1z := hb1.size; try simp only [World.size_alloc, World.size_drew] at h1z))
  obtain ⟨W, hW⟩ : ∃ W, W = w1.alloc (Obj.cells #[.slice none 0 0] 61) := ⟨_, rfl⟩
  have hb : Below w.heap.size w W := by rw [hW]; exact blw
  have hbw : Below w1.heap.size w1 W := by rw [hW]; exact blw
  have hz : W.heap.size = w1.heap.size + 1 := by rw [hW]; simp
  have hw1 : w.heap.size < w1.heap.size := by omega
  have z1 : W.heap[w.heap.size]? = some (.cells #[.slice a n c] 22 (0, 0)) := (hbw.block _ hw1).trans ((hb1.block _ (by simp)).trans (by rw [heap_push, if_pos rfl]))
  have z3 : W.heap[w1.heap.size]? = some (.cells #[.slice none 0 0] 61 (0, 0)) := by rw [hW, heap_push, if_pos rfl]
  rw [← hW]
  have HB := Lib.hid hb
  have HT := Lib.hid (try_any 29 _ W (HRead1R w.heap.size w1.heap.size W w1.heap.size bs) (enter_ht1 _)
    (ht1_any w.heap.size w1.heap.size a n c bs w.heap.size w1.heap.size (.slice none 0 0) W (fun h0 => (bhas_of_has HH.out (Nat.le_refl _) h0).below hb) HL.out hn hc (by omega) (by omega) (Nat.le_refl _) (by omega) (cell_of_heap z1 0) z3))
  have Z1 := Lib.hid z1
  have Z3 := Lib.hid z3
  clear hW hb hbw z1 z3 h1c h1f hb1
  refine HT.out.mono ?_
  rintro r w2 ⟨ok, rfl, (⟨rfl, rs, ao, co, hok, hd, hG, hM, hb2, hz2⟩ | ⟨rfl, hno, hb2⟩)⟩
  case inr =>
    have HB2 := Lib.hid (HB.out.trans (hb2.mono (by omega)))
    have HNO := Lib.hid hno
    have y1 := (hb2.block w.heap.size (by omega)).trans Z1.out
    have y3 := (hb2.block w1.heap.size (by omega)).trans Z3.out
    have q1 := cell_of_heap y1 0
    have q3 := cell_of_heap y3 0
    simp only [List.getElem?_toArray, List.getElem?_cons_zero] at q1 q3
    have l1 := (Array.getElem?_eq_some_iff.1 y1).1
    clear hb2 hno HT y1 y3
    go_wp2_with fail
    refine (HRF.out _ HB2.out).mono ?_
    rintro e w3 ⟨(⟨_, _, _, hok, _⟩ | ⟨_, rfl⟩), hb3⟩
    · exact absurd hok HNO.out
    have HB3 := Lib.hid (HB2.out.trans (hb3.mono HB2.out.size))
    clear hb3
    go_wp2_with fail
    go_ret
    exact ⟨rfl, HB3.out⟩
  have HB2 := Lib.hid (HB.out.trans (hb2.mono (by omega)))
  have y1 := (hb2.block w.heap.size (by omega)).trans Z1.out
  have q1 := cell_of_heap y1 0
  have q3 := cell_of_heap hG 0
  simp only [List.getElem?_toArray, List.getElem?_cons_zero] at q1 q3
  have l1 := (Array.getElem?_eq_some_iff.1 y1).1
  have l3 := (Array.getElem?_eq_some_iff.1 hG).1
  have HOK := Lib.hid hok
  have HD := Lib.hid hd
  have HRS := Lib.hid hM
  have HG := Lib.hid hG
  obtain ⟨N, hN⟩ : ∃ N, N = rs.length := ⟨_, rfl⟩
  have HN := Lib.hid hN
  rw [← hN] at q3
  clear hb2 hok hd hM hG HT y1 hN
  go_wp2_with fail
  refine (HRF.out _ HB2.out).mono ?_
  rintro e w3 ⟨(⟨ds, ad, cd, _, hdd, hdl, rfl, hro, hin, hsu⟩ | ⟨hno, _⟩), hb3⟩
  case inr => exact absurd HOK.out hno
  have HB3 := Lib.hid (HB2.out.trans (hb3.mono HB2.out.size))
  have q3 := (hb3.cell (p := ⟨w1.heap.size, 0, none⟩) l3).trans q3
  have l33 := Nat.lt_of_lt_of_le l3 hb3.size
  have hpin : ∀ r ∈ rs, r.In w3 := fun r hr => (HRS.out.each r hr).toIn.below hb3
  have hqin : ∀ r ∈ ds, r.In w3 := fun r hr => ⟨(hin r hr).rules.1, (hin r hr).subs.1, fun s hs => (hsu r hr s hs).below hb3⟩
  obtain ⟨k1, k2, k3⟩ := chs_small (by rw [HL.out]; omega) HOK.out HD.out hpin
  have hP := (has_of_owns (HRS.out.below hb3).row)
  have hSM := fun W (hW : Below w3.heap.size w3 W) => same_any ao N co rs ad cd ds W HN.out.symm (by rw [HD.out, hdd]) (hP.below hW) (fun r hr => (hpin r hr).below hW) ((has_of_owns hro).below hW) (fun r hr => (hqin r hr).below hW) k3 (by rw [HN.out]; exact k2)
  rw [← k1, ← HN.out]
  have HSM := Lib.hid hSM
  clear hSM hP k1 k2 k3 hpin hqin hb3 hdd hdl hro hin hsu q1 l1
  go_wp2_with (first | (go_at_call 24; (with_reducible refine (HSM.out _ (brefl _)).mono ?_); rintro e w4 ⟨rfl, hb4⟩; have h4c := bc hb4; have h4f := bf hb4; have h4z := hb4.size; try simp only [World.size_alloc, World.size_drew] at h4z))
  go_ret
  exact ⟨rfl, HB3.out.trans (hb4.mono HB3.out.size)⟩

open Go.ChangeShapes Go.WideShapes Go.ChangeAt Go.RowKit
open Go.ChangeMaps (open_string shut_string)

set_option maxRecDepth 100000 in
theorem chainTakes_walks (H : Type) (enc : TypeId × Value → H) : Walks H enc 9 [22] := by
  intro W base args ds p hval hA _
  obtain ⟨v0, vs0, d0, ds0, p0, q0, hargs, rfl, rfl, h0, r0⟩ := trodAll_cons hA
  obtain ⟨rfl, rfl, rfl⟩ := trodAll_nil r0
  obtain rfl : args = #[v0] := by cases args; simp_all
  obtain ⟨a1, n1, c1, bs, rfl, hb, hl, hn1, hc1, hA1⟩ := open_bytes Try.underlying22 Try.underlying5 (by kernel_rfl) (hval 0 22 v0 rfl rfl) h0
  exact chainTakes_walk a1 n1 c1 bs W hb hl hn1 hc1

set_option maxRecDepth 100000 in
theorem chainTakes_lifted (os : Os) (started : os.Started) (H : Type) (enc : TypeId × Value → H) :
    ReturnsInHanded {} Try.checked os 9 .any (Rows.chainTakesSpec.pre6 enc Try.prog Try.f9 Rows.chainTakesRow.domain false) (Rows.chainTakesSpec.post enc Try.prog Try.f9 false true false false) :=
  lift_law (s := Rows.chainTakesSpec) (fn := Try.f9) started (by kernel_rfl) Try.func9
    (ChangeSpec.witness6 (enc := enc) (C := Try.checked) false ⟨#[], #[.slice none 0 0], []⟩ 8 (by kernel_rfl) (by kernel_rfl) (by kernel_rfl) (by kernel_rfl))
    rfl rfl (fun ds h => by match ds, h with | [d0], _ => rfl) (by intro t ht; simp [Try.params9] at ht; first | (subst ht; exact ⟨by kernel_rfl, of_decide_eq_true (by kernel_rfl)⟩) | (obtain rfl | rfl := ht <;> exact ⟨by kernel_rfl, of_decide_eq_true (by kernel_rfl)⟩) | (obtain rfl | rfl | rfl := ht <;> exact ⟨by kernel_rfl, of_decide_eq_true (by kernel_rfl)⟩) | (obtain rfl | rfl | rfl | rfl := ht <;> exact ⟨by kernel_rfl, of_decide_eq_true (by kernel_rfl)⟩))
    (by rw [Try.params9]; exact chainTakes_walks H enc)
theorem chainTakes_over : Rows.chainTakesRow.holds Try.pinned (OpenSpec.ofChange Rows.chainTakesSpec) :=
  OpenClaim.holds_of_wide 9 Try.f9 rfl rfl rfl rfl rfl rfl rfl ⟨rfl, rfl, rfl, rfl, rfl⟩ rfl rfl rfl rfl rfl (by kernel_rfl) Try.func9 (by kernel_rfl)
    (of_decide_eq_true (by kernel_rfl)) (by unfold Func.isWrapper; first | (rw [if_pos (by decide +kernel)]; kernel_rfl) | (rw [if_neg (by decide +kernel)]; exact ⟨rfl, rfl⟩))
    (fun os started H enc _ => chainTakes_lifted os started H enc)
theorem chainTakes_proved : Rows.ChainTakesSaid := chainTakes_over
#print axioms chainTakes_proved
end Go.Proofs.Ythehcbbdkiomnaa
