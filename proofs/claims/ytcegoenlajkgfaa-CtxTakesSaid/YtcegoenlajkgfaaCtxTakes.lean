
/- The walk of CtxTakes. CtxTakes returns true for every bytes and every line, and changes nothing: whoever takes a subtable of a View has one that does as the one that is read, or it is thrown, just where there is none. No condition beside the row's own. -/
import Derived.Test.YtcegoenlajkgfaaJ22
import Derived.Test.YtcegoenlajkgfaaJ17
namespace Go.Proofs.Ytcegoenlajkgfaa
open Go.RowKit Go.Lib

theorem newG_idsC {ids : List Int} (h : ∀ z ∈ ids, -9223372036854775808 ≤ z ∧ z ≤ 9223372036854775807) : IdsOk (newG ids) := by
  intro p hp
  obtain ⟨k, hk⟩ := List.mem_iff_getElem?.1 hp
  rw [newG_get] at hk
  cases hz : ids[k]? with
  | none => rw [hz] at hk; cases hk
  | some z =>
    rw [hz] at hk
    cases hk
    exact h z (List.mem_of_getElem? hz)
theorem ctxD_length (bs : List UInt8) (rs : List RP) (lk : Nat → Int → Nat × Bool) (l : List (Int × Int)) : (ctxD bs rs lk l).1.1.length = l.length := by
  unfold ctxD
  exact runD_keeps (fun x : KX => x.1.length = l.length) (fun x z e h => by show (lineC lk x.1 x.2 z e.2.2.1 e.2.2.2).length = l.length; rw [lineC_length]; exact h) _ _ _ _ _ _ rfl
theorem GIs.keepA {B g c B0 g5 : Nat} {a : Option Addr} {l : List (Int × Int)} {bk : Option Nat} {w w' : World} (h : GIs B g a c l w) (hk : KeepC B0 (ownA bk g5) w w') (hne : ∀ k, a.map (·.block) = some k → bk ≠ some k) : GIs B g a c l w' := by
  refine ⟨(hk.kept _ _ _ _ h.hd (ownA_no (by decide) (by decide) _)).trans h.hd, h.row.1, ?_⟩
  rcases h.row.2 with h2 | ⟨b, cap, cur, hv, hg, hh, r⟩
  · exact .inl h2
  · refine .inr ⟨b, cap, cur, hv, hg, ?_, r⟩
    have ha : a.map (·.block) = some b := by
      injection hv with hv _ _
      rw [hv]; rfl
    rw [hk.kept b _ _ _ hh (by
      rintro (⟨_, h⟩ | ⟨h, _⟩)
      · exact hne b ha h
      · exact absurd h (by decide))]
    exact hh
/-- What the function within CtxTakes leaves. -/
def CTake1 (B : Nat) (w : World) (g3 : Nat) (bs : List UInt8) (ok : Bool) (w' : World) : Prop := CRead1R B w g3 bs 40 ok w'
theorem enter_ct1 (args : Array Value) (w : World) : (callFunc 25 args).run Try.prog w = .ok (.enter 25 args) w := by kernel_rfl
set_option maxRecDepth 100000 in
set_option maxHeartbeats 1600000 in
theorem ct1_any (B : Nat) (a : Option Addr) (n c : Nat) (bs : List UInt8) (g0 g3 : Nat) (x : Value) (w : World) (h : Has w a (bytesV bs)) (hl : bs.length = n) (hn : n ≤ c) (hc : c ≤ maxLen) (hB : B ≤ g3)
    (c0 : w.cell? ⟨g0, 0, none⟩ = some (.slice a n c))
    (c3 : w.heap[g3]? = some (.cells #[x] 34 (0, 0))) :
    Calls Try.prog 25 #[.pointer (some ⟨g0, 0, none⟩), .pointer (some ⟨g3, 0, none⟩)] w
      fun e w' => (e = .returned (.tuple #[]) ∧ CTake1 B w g3 bs true w') ∨ (e = .panicked thrown ∧ CTake1 B w g3 bs false w') := by
  have HH := Lib.hid h
  have HL := Lib.hid hl
  have C3 := Lib.hid c3
  have l0 := cell_lt c0
  have l3 := (Array.getElem?_eq_some_iff.1 c3).1
  simp only at l0 l3
  clear h hl c3
  by_cases hok : ∃ rs S qs, COk bs 40 rs S qs
  · obtain ⟨rs, S, qs, hok⟩ := hok
    have HOK := Lib.hid hok
    have HT := Lib.hid (fun W hw => show Calls Try.prog 26 #[.agg #[.slice a n c], .int .i64 40] W fun e w' => ∃ g, e = .returned (.pointer (some ⟨g, 0, none⟩)) ∧ CIs W.heap.size g bs rs S qs w' ∧ Below W.heap.size W w' from ctake_ok a n c bs 40 rs S qs W hw HL.out hn hc (by decide) (by decide) hok)
    clear hok
    go_enter Try.func25, Try.ntmps25
    go_wp2_with fail
    go_wp2_with (first | (go_at_call 27; (with_reducible refine (of_any _ _ _ _).mono ?_); rintro e wa ⟨rfl, hba⟩; have hac := bc hba; have haf := bf hba; have haz := hba.size; try simp only [World.size_alloc, World.size_drew] at haz) | (go_at_call 26; (with_reducible refine (HT.out _ (HH.out.below (by exact blw))).mono ?_); rintro e wb ⟨g, rfl, hown, hbb⟩; have hbz := hbb.size; have HOW := Lib.hid hown; have hB4 : Below w.heap.size w wb := blw; have c4b := (hB4.block g3 l3).trans C3.out; have q4 := cell_of_heap c4b 0; have f4 := froz_of_heap c4b 0; have HC4 := Lib.hid c4b; have HBB := Lib.hid hB4; clear hown hbb hB4 c4b))
    go_end0
    refine .inl ⟨rfl, .inl ⟨rfl, rs, S, qs, g, HOK.out, set_heap_at _ HC4.out, ?_, (HBB.out.mono (Nat.le_of_lt (by omega))).setCell (p := ⟨g3, 0, none⟩) hB _, by have := HBB.out.size; simpa using this⟩⟩
    exact (HOW.out.setOther HC4.out (.pointer (some ⟨g, 0, none⟩))).mono (by omega)
  · have HNO := Lib.hid (show ∀ rs S qs, ¬ COk bs 40 rs S qs from fun rs S qs ho => hok ⟨rs, S, qs, ho⟩)
    have HT := Lib.hid (fun W hw => show Calls Try.prog 26 #[.agg #[.slice a n c], .int .i64 40] W fun e w' => e = .panicked thrown ∧ Below W.heap.size W w' from ctake_bad a n c bs 40 W hw HL.out hn hc (by decide) (by decide) HNO.out)
    clear hok
    go_enter Try.func25, Try.ntmps25
    go_wp2_with fail
    go_wp2_with (first | (go_at_call 27; (with_reducible refine (of_any _ _ _ _).mono ?_); rintro e wa ⟨rfl, hba⟩; have hac := bc hba; have haf := bf hba; have haz := hba.size; try simp only [World.size_alloc, World.size_drew] at haz) | (go_at_call 26; (with_reducible refine (HT.out _ (HH.out.below (by exact blw))).mono ?_); rintro e wb ⟨rfl, hbb⟩))
    exact ⟨rfl, .inr ⟨rfl, .inr ⟨rfl, HNO.out, blw⟩⟩⟩
set_option maxRecDepth 100000 in
set_option maxHeartbeats 6400000 in
theorem ctxTakes_walk (a : Option Addr) (n c : Nat) (bs : List UInt8) (aI : Option Addr) (nI cI : Nat) (ids : List Int) (w : World) (h : Has w a (bytesV bs)) (hl : bs.length = n) (hn : n ≤ c) (hc : c ≤ maxLen)
    (hi : Has w aI (iv ids)) (hil : ids.length = nI) (hiw : ∀ z ∈ ids, -9223372036854775808 ≤ z ∧ z ≤ 9223372036854775807) :
    Calls Try.prog 6 #[.slice a n c, .slice aI nI cI] w fun e w' => e = .returned (.bool true) ∧ Below w.heap.size w w' := by
  have hAC := allocC
  have hAF := allocF
  have hmf : ∀ (fn : Fn) (first cap : Array Value) (w : World), (Instr.makeFunc fn first cap).run Try.prog w = .ok (.func fn first cap) w := fun _ _ _ _ => rfl
  have HSP := Lib.hid (fun W (_ : Below w.heap.size w W) => speaks15_any W)
  have HH := Lib.hid h
  have HL := Lib.hid hl
  have HI := Lib.hid hi
  have HIL := Lib.hid hil
  have HIW := Lib.hid hiw
  clear h hl hi hil hiw
  by_cases hbig : 800 < n
  · have d1 : decide (800 < (n : Int)) = true := by simp; omega
    go_enter Try.func6, Try.ntmps6
    go_wp2_with (first | (go_at_call 12; (with_reducible refine (HSP.out _ (by exact blw)).mono ?_); rintro e w1 ⟨rfl, hb1⟩; have h1c := bc hb1; have h1f := bf hb1; have h1z := hb1.size; try simp only [World.size_alloc, World.size_drew] at h1z))
    go_ret
    exact ⟨rfl, blw⟩
  have d1 : decide (800 < (n : Int)) = false := by simp; omega
  by_cases hbig2 : 40 < nI
  · have d2 : decide (40 < (nI : Int)) = true := by simp; omega
    go_enter Try.func6, Try.ntmps6
    go_wp2_with (first | (go_at_call 12; (with_reducible refine (HSP.out _ (by exact blw)).mono ?_); rintro e w1 ⟨rfl, hb1⟩; have h1c := bc hb1; have h1f := bf hb1; have h1z := hb1.size; try simp only [World.size_alloc, World.size_drew] at h1z))
    go_ret
    exact ⟨rfl, blw⟩
  have d2 : decide (40 < (nI : Int)) = false := by simp; omega
  go_enter Try.func6, Try.ntmps6
  go_wp2_with (first | (go_at_call 12; (with_reducible refine (HSP.out _ (by exact blw)).mono ?_); rintro e w1 ⟨rfl, hb1⟩; have h1c := bc hb1; have h1f := bf hb1; have h1z := hb1.size; try simp only [World.size_alloc, World.size_drew] at h1z))
  obtain ⟨W, hW⟩ : ∃ W, W = w1.alloc (Obj.cells #[.pointer none] 34) := ⟨_, rfl⟩
  have hb : Below w.heap.size w W := by rw [hW]; exact blw
  have hbw : Below w1.heap.size w1 W := by rw [hW]; exact blw
  have hz : W.heap.size = w1.heap.size + 1 := by rw [hW]; simp
  have hw1 : w.heap.size < w1.heap.size := by omega
  have z2 : W.heap[w.heap.size]? = some (.cells #[.slice a n c] 22 (0, 0)) := (hbw.block _ hw1).trans ((hb1.block _ (by simp)).trans (by rw [heap_push, if_pos rfl]))
  have z6 : W.heap[w1.heap.size]? = some (.cells #[.pointer none] 34 (0, 0)) := by rw [hW, heap_push, if_pos (by simp)]
  rw [← hW]
  have HB := Lib.hid hb
  have HT := Lib.hid (try_any 25 _ W (CTake1 w1.heap.size W w1.heap.size bs) (enter_ct1 _)
    (ct1_any w1.heap.size a n c bs w.heap.size w1.heap.size (.pointer none) W (HH.out.below hb) HL.out hn hc (Nat.le_refl _) (cell_of_heap z2 0) z6))
  have Z2 := Lib.hid z2
  have Z6 := Lib.hid z6
  clear hW hb hbw z2 z6 h1c h1f hb1
  refine HT.out.mono ?_
  rintro r w2 ⟨ok, rfl, (⟨rfl, rs, S, qs, gt, hok, hG, hM, hb2, hz2⟩ | ⟨rfl, hno, hb2⟩)⟩
  case inr =>
    have HBw := Lib.hid (HB.out.trans (hb2.mono (by omega)))
    have HRD := Lib.hid (cread_none a n c bs 40 40 rfl w2 (HH.out.below HBw.out) HL.out hn hc (by decide) (by decide) hno)
    have q2 := cell_of_heap ((hb2.block _ (by omega)).trans Z2.out) 0
    have q6 := cell_of_heap ((hb2.block _ (by omega)).trans Z6.out) 0
    simp only [List.getElem?_toArray, List.getElem?_cons_zero] at q2 q6
    have hz2 := hb2.size
    clear hb2 hno HT
    go_wp2_with (first | (go_at_call 15; (with_reducible refine (HRD.out).mono ?_); rintro e w3 ⟨rfl, hb3⟩; have h3c := bc hb3; have h3f := bf hb3; have h3z := hb3.size; try simp only [World.size_alloc, World.size_drew] at h3z))
    go_ret
    exact ⟨rfl, HBw.out.trans (Below.mono (show Below w2.heap.size w2 _ from by exact blw) HBw.out.size)⟩
  have HBw := Lib.hid (HB.out.trans (hb2.mono (by omega)))
  have q2 := cell_of_heap ((hb2.block w.heap.size (by omega)).trans Z2.out) 0
  have q6 := cell_of_heap hG 0
  simp only [List.getElem?_toArray, List.getElem?_cons_zero] at q2 q6
  have HM := Lib.hid hM
  have HG := Lib.hid hG
  have HOK := Lib.hid hok
  have HRD := Lib.hid (cread_some a n c bs 40 40 rfl rs S qs w2 (HH.out.below HBw.out) HL.out hn hc (by decide) (by decide) hok)
  have l6 := (Array.getElem?_eq_some_iff.1 hG).1
  have HRUN := Lib.hid (fun (Bm gt gl : Nat) (a : Option Addr) (c : Nat) (W : World) (hT : CIs Bm gt bs rs S qs W) (hG : GIs w.heap.size gl a c (newG ids) W) (hB : w.heap.size ≤ W.heap.size) => crun_any Bm gt bs 40 rs S qs w.heap.size gl a c (newG ids) W hT hok (by decide) (by decide) hG hB (newG_idsC HIW.out) (by rw [newG_length, HIL.out]; omega))
  have hRL : (ctxD bs rs (lkC bs qs) (newG ids)).1.1.length = nI := by rw [ctxD_length, newG_length, HIL.out]
  generalize ctxD bs rs (lkC bs qs) (newG ids) = RR at *
  obtain ⟨⟨R, _⟩, _, E⟩ := RR
  simp only at HRUN hRL
  clear hok hG hM hb2 HT
  go_wp2_with (first
    | (go_at_call 15; (with_reducible refine HRD.out.mono ?_); rintro e w3 ⟨gu, rfl, hU, hb3⟩; have HU := Lib.hid hU; have HM3 := Lib.hid (HM.out.below hb3); have h3c := bc hb3; have h3f := bf hb3; have h3z := hb3.size; have HB3 := Lib.hid (HBw.out.trans (hb3.mono HBw.out.size)); have q63 := cell_of_heap ((hb3.block w1.heap.size l6).trans HG.out) 0; simp only [List.getElem?_toArray, List.getElem?_cons_zero] at q63; have Z63 := Lib.hid ((hb3.block w1.heap.size l6).trans HG.out); clear hU)
    | (go_at_call 17; (with_reducible refine (gnew_any aI nI cI ids w3 (HI.out.below HB3.out) HIL.out (by omega)).mono ?_); rintro e w4 ⟨gx, ax, cx, rfl, hGx, hgx, hb4⟩; have HGX := Lib.hid hGx; have HB34 := Lib.hid hb4; have HB4 := Lib.hid (HB3.out.trans (hb4.mono HB3.out.size)); have hgx0 : w.heap.size ≤ gx := Nat.le_trans HB3.out.size hgx; clear hGx hgx hb4)
    | (go_at_call 17
       (with_reducible refine (gnew_any aI nI cI ids w4 (HI.out.below HB4.out) HIL.out (by omega)).mono ?_)
       rintro e w5 ⟨gy, ay, cy, rfl, hGy, hgy, hb5⟩
       have hb35 := HB34.out.trans (hb5.mono HB34.out.size)
       have HGX5 := Lib.hid ((HGX.out.below hb5).mono HB3.out.size)
       have HGY5 := Lib.hid (hGy.mono HB4.out.size)
       have HNE := Lib.hid (show ∀ k, ay.map (·.block) = some k → ax.map (·.block) ≠ some k from fun k hk hx => by have h1 := (hGy.rowIn k hk).1; have h2 := (HGX.out.rowIn k hx).2; omega)
       have HB5 := Lib.hid (HB4.out.trans (hb5.mono HB4.out.size))
       have hgy0 : w.heap.size ≤ gy := Nat.le_trans HB4.out.size hgy
       have HM5 := Lib.hid (HM3.out.below hb35)
       have HU5 := Lib.hid (HU.out.below hb35)
       have q65 := cell_of_heap ((hb35.block w1.heap.size (Array.getElem?_eq_some_iff.1 Z63.out).1).trans Z63.out) 0
       simp only [List.getElem?_toArray, List.getElem?_cons_zero] at q65
       clear hGy hgy hb5 hb35)
    | (go_at_call 18
       (with_reducible refine (HRUN.out _ _ _ _ _ w5 HM5.out HGX5.out HB5.out.size).mono ?_)
       rintro e w6 ⟨rfl, ⟨ax6, cx6, hGx6, hbk6⟩, hk6⟩
       have HGX6 := Lib.hid hGx6
       have HBK6 := Lib.hid hbk6
       have HGY6 := Lib.hid (HGY5.out.keepA hk6 HNE.out)
       have HU6 := Lib.hid (HU5.out.keepS hk6 (notM_A _ _) (ownA_no (by decide) (by decide)) (ownA_no (by decide) (by decide)))
       have HB6 := Lib.hid (HB5.out.trans hk6.below)
       clear hGx6 hk6 hbk6)
    | (go_at_call 18
       (with_reducible refine (HRUN.out _ _ _ _ _ w6 HU6.out HGY6.out HB6.out.size).mono ?_)
       rintro e w7 ⟨rfl, ⟨ay7, cy7, hGy7, _⟩, hk7⟩
       have HGY7 := Lib.hid hGy7
       have HGX7 := Lib.hid (HGX6.out.keepA hk7 (fun k hk h2 => HNE.out k h2 (HBK6.out.symm.trans hk)))
       have HB7 := Lib.hid (HB6.out.trans hk7.below)
       clear hGy7 hk7)
    | (go_at_call 21; (with_reducible refine (gglyphs_any w.heap.size gx ax6 cx6 R w7 HGX7.out (by simp only [hRL]; omega)).mono ?_); rintro e w8 ⟨a8, c8, rfl, ho, _, _, _, hb8⟩; have HH8 := Lib.hid (has_of_owns ho); have HGY8 := Lib.hid (HGY7.out.below hb8); have HB8 := Lib.hid (HB7.out.trans (hb8.mono HB7.out.size)); clear ho hb8)
    | (go_at_call 21; (with_reducible refine (gglyphs_any w.heap.size gy ay7 cy7 R w8 HGY8.out (by simp only [hRL]; omega)).mono ?_); rintro e w9 ⟨a9, c9, rfl, ho, _, _, _, hb9⟩; have HH9 := Lib.hid (has_of_owns ho); have HH8' := Lib.hid (HH8.out.below hb9); have HB9 := Lib.hid (HB8.out.trans (hb9.mono HB8.out.size)); clear ho hb9)
    | (go_at_call 22; (with_reducible refine (refSameG_any _ _ nI _ nI _ R R w9 HH8'.out hRL HH9.out hRL (by omega) (by omega)).mono ?_); rintro e w10 ⟨rfl, hb10⟩; rw [decide_eq_true rfl]; have HB10 := Lib.hid (HB9.out.trans (hb10.mono HB9.out.size)); clear hb10))
  go_ret
  exact ⟨rfl, HB10.out⟩

open Go.ChangeShapes Go.WideShapes Go.ChangeAt Go.RowKit
open Go.ChangeMaps (open_string shut_string)

set_option maxRecDepth 100000 in
theorem ctxTakes_walks (H : Type) (enc : TypeId × Value → H) : Walks H enc 6 [22, 30] := by
  intro W base args ds p hval hA _
  obtain ⟨v0, vs0, d0, ds0, p0, q0, hargs, rfl, rfl, h0, r0⟩ := trodAll_cons hA
  obtain ⟨v1, vs1, d1, ds1, p1, q1, rfl, rfl, rfl, h1, r1⟩ := trodAll_cons r0
  obtain ⟨rfl, rfl, rfl⟩ := trodAll_nil r1
  obtain rfl : args = #[v0, v1] := by cases args; simp_all
  obtain ⟨a0, n0, c0, x0, rfl, e0, f0, g0, j0, k0⟩ := open_bytes Try.underlying22 Try.underlying5 (by kernel_rfl) (hval 0 22 v0 rfl rfl) h0
  obtain ⟨a, n, c, ids, rfl, hl, _, _, _, hi, hz⟩ := open_ids (hval 1 30 v1 rfl rfl) h1
  exact ctxTakes_walk a0 n0 c0 x0 a n c ids W e0 f0 g0 j0 hi hl hz

set_option maxRecDepth 100000 in
theorem ctxTakes_lifted (os : Os) (started : os.Started) (H : Type) (enc : TypeId × Value → H) :
    ReturnsInHanded {} Try.checked os 6 .any (Rows.ctxTakesSpec.pre6 enc Try.prog Try.f6 Rows.ctxTakesRow.domain false) (Rows.ctxTakesSpec.post enc Try.prog Try.f6 false true false false) :=
  lift_law (s := Rows.ctxTakesSpec) (fn := Try.f6) started (by kernel_rfl) Try.func6
    (ChangeSpec.witness6 (enc := enc) (C := Try.checked) false ⟨#[], #[.slice none 0 0, .slice none 0 0], []⟩ 8 (by kernel_rfl) (by kernel_rfl) (by kernel_rfl) (by kernel_rfl))
    rfl rfl (fun ds h => by match ds, h with | [d0, d1], _ => rfl) (by intro t ht; simp [Try.params6] at ht; first | (subst ht; exact ⟨by kernel_rfl, of_decide_eq_true (by kernel_rfl)⟩) | (obtain rfl | rfl := ht <;> exact ⟨by kernel_rfl, of_decide_eq_true (by kernel_rfl)⟩) | (obtain rfl | rfl | rfl := ht <;> exact ⟨by kernel_rfl, of_decide_eq_true (by kernel_rfl)⟩) | (obtain rfl | rfl | rfl | rfl := ht <;> exact ⟨by kernel_rfl, of_decide_eq_true (by kernel_rfl)⟩))
    (by rw [Try.params6]; exact ctxTakes_walks H enc)
theorem ctxTakes_over : Rows.ctxTakesRow.holds Try.pinned (OpenSpec.ofChange Rows.ctxTakesSpec) :=
  OpenClaim.holds_of_wide 6 Try.f6 rfl rfl rfl rfl rfl rfl rfl ⟨rfl, rfl, rfl, rfl, rfl⟩ rfl rfl rfl rfl rfl (by kernel_rfl) Try.func6 (by kernel_rfl)
    (of_decide_eq_true (by kernel_rfl)) (by unfold Func.isWrapper; first | (rw [if_pos (by decide +kernel)]; kernel_rfl) | (rw [if_neg (by decide +kernel)]; exact ⟨rfl, rfl⟩))
    (fun os started H enc _ => ctxTakes_lifted os started H enc)
theorem ctxTakes_proved : Rows.CtxTakesSaid := ctxTakes_over
#print axioms ctxTakes_proved
end Go.Proofs.Ytcegoenlajkgfaa
