
/- The walk of InsTakes. InsTakes returns true for every bytes and every line, and changes nothing: whoever takes a subtable of a View has one that does as the one that is read, or it is thrown, just where there is none. No condition beside the row's own. -/
import Derived.Test.YtlgkikmmpnnnfaaJ01
import Derived.Test.YtlgkikmmpnnnfaaJ19
import Derived.Test.YtlgkikmmpnnnfaaJ13
namespace Go.Proofs.Ytlgkikmmpnnnfaa
open Go.RowKit Go.Lib

/-- What the function within InsTakes leaves. -/
def ITake1 (L B : Nat) (w : World) (g3 : Nat) (bs : List UInt8) (ok : Bool) (w' : World) : Prop := IRead1R L B w g3 bs 40 ok w'
theorem enter_it1 (args : Array Value) (w : World) : (callFunc 36 args).run Try.prog w = .ok (.enter 36 args) w := by kernel_rfl
set_option maxRecDepth 100000 in
set_option maxHeartbeats 1600000 in
theorem it1_any (L B : Nat) (a : Option Addr) (n c : Nat) (bs : List UInt8) (g0 g3 : Nat) (x : Value) (w : World) (h : Has w a (bytesV bs)) (hf : 0 < bs.length → BHas L a bs w) (hl : bs.length = n) (hn : n ≤ c) (hc : c ≤ maxLen) (hB : B ≤ g3) (hL : L ≤ g3)
    (c0 : w.cell? ⟨g0, 0, none⟩ = some (.slice a n c))
    (c3 : w.heap[g3]? = some (.cells #[x] 75 (0, 0))) :
    Calls Try.prog 36 #[.pointer (some ⟨g0, 0, none⟩), .pointer (some ⟨g3, 0, none⟩)] w
      fun e w' => (e = .returned (.tuple #[]) ∧ ITake1 L B w g3 bs true w') ∨ (e = .panicked thrown ∧ ITake1 L B w g3 bs false w') := by
  have HH := Lib.hid h
  have HL := Lib.hid hl
  have HF := Lib.hid hf
  have C3 := Lib.hid c3
  have l0 := cell_lt c0
  have l3 := (Array.getElem?_eq_some_iff.1 c3).1
  simp only at l0 l3
  clear h hf hl c3
  by_cases hok : ∃ rs S, IOk bs 40 rs S
  · obtain ⟨rs, S, hok⟩ := hok
    have HOK := Lib.hid hok
    have HT := Lib.hid (fun W hw => show Calls Try.prog 37 #[.agg #[.slice a n c], .int .i64 40] W fun e w' => ∃ g, e = .returned (.pointer (some ⟨g, 0, none⟩)) ∧ IIs L W.heap.size g bs rs S w' ∧ Below W.heap.size W w' from itake_ok L a n c bs 40 rs S W hw HL.out hn hc (by decide) (by decide) hok)
    have HBO := Lib.hid (HF.out (by have := hok.l20; omega))
    clear hok
    go_enter Try.func36, Try.ntmps36
    go_wp2_with fail
    go_wp2_with (first | (go_at_call 29; (with_reducible refine (of_any _ _ _ _).mono ?_); rintro e wa ⟨rfl, hba⟩; have hac := bc hba; have haf := bf hba; have haz := hba.size; try simp only [World.size_alloc, World.size_drew] at haz) | (go_at_call 37; (with_reducible refine (HT.out _ (HBO.out.below (by exact blw))).mono ?_); rintro e wb ⟨g, rfl, hown, hbb⟩; have hbz := hbb.size; have HOW := Lib.hid hown; have hB4 : Below w.heap.size w wb := blw; have c4b := (hB4.block g3 l3).trans C3.out; have q4 := cell_of_heap c4b 0; have f4 := froz_of_heap c4b 0; have HC4 := Lib.hid c4b; have HBB := Lib.hid hB4; clear hown hbb hB4 c4b))
    go_end0
    refine .inl ⟨rfl, .inl ⟨rfl, rs, S, g, HOK.out, set_heap_at _ HC4.out, ?_, (HBB.out.mono (Nat.le_of_lt (by omega))).setCell (p := ⟨g3, 0, none⟩) hB _, by have := HBB.out.size; simpa using this⟩⟩
    exact (HOW.out.setOther HC4.out hL (.pointer (some ⟨g, 0, none⟩))).mono (by omega)
  · have HNO := Lib.hid (show ∀ rs S, ¬ IOk bs 40 rs S from fun rs S ho => hok ⟨rs, S, ho⟩)
    have HT := Lib.hid (fun W hw (hf : 0 < bs.length → BHas L a bs W) => show Calls Try.prog 37 #[.agg #[.slice a n c], .int .i64 40] W fun e w' => e = .panicked thrown ∧ Below W.heap.size W w' from itake_bad L a n c bs 40 W hw hf HL.out hn hc (by decide) (by decide) HNO.out)
    clear hok
    go_enter Try.func36, Try.ntmps36
    go_wp2_with fail
    go_wp2_with (first | (go_at_call 29; (with_reducible refine (of_any _ _ _ _).mono ?_); rintro e wa ⟨rfl, hba⟩; have hac := bc hba; have haf := bf hba; have haz := hba.size; try simp only [World.size_alloc, World.size_drew] at haz) | (go_at_call 37; (with_reducible refine (HT.out _ (HH.out.below (by exact blw)) (fun h0 => (HF.out h0).below (by exact blw))).mono ?_); rintro e wb ⟨rfl, hbb⟩))
    exact ⟨rfl, .inr ⟨rfl, .inr ⟨rfl, HNO.out, blw⟩⟩⟩
set_option maxRecDepth 100000 in
set_option maxHeartbeats 6400000 in
theorem insTakes_walk (a : Option Addr) (n c : Nat) (bs : List UInt8) (aI : Option Addr) (nI cI : Nat) (ids : List Int) (w : World) (h : Has w a (bytesV bs)) (hl : bs.length = n) (hn : n ≤ c) (hc : c ≤ maxLen)
    (hi : Has w aI (iv ids)) (hil : ids.length = nI) (hiw : ∀ z ∈ ids, -9223372036854775808 ≤ z ∧ z ≤ 9223372036854775807) :
    Calls Try.prog 12 #[.slice a n c, .slice aI nI cI] w fun e w' => e = .returned (.bool true) ∧ Below w.heap.size w w' := by
  have hAC := allocC
  have hAF := allocF
  have hmf : ∀ (fn : Fn) (first cap : Array Value) (w : World), (Instr.makeFunc fn first cap).run Try.prog w = .ok (.func fn first cap) w := fun _ _ _ _ => rfl
  have HSP := Lib.hid (fun W (_ : Below w.heap.size w W) => speaks18_any W)
  have HH := Lib.hid h
  have HL := Lib.hid hl
  have HI := Lib.hid hi
  have HIL := Lib.hid hil
  have HIW := Lib.hid hiw
  clear h hl hi hil hiw
  by_cases hbig : 800 < n
  · have d1 : decide (800 < (n : Int)) = true := by simp; omega
    go_enter Try.func12, Try.ntmps12
    go_wp2_with (first | (go_at_call 30; (with_reducible refine (HSP.out _ (by exact blw)).mono ?_); rintro e w1 ⟨rfl, hb1⟩; have h1c := bc hb1; have h1f := bf hb1; have h1z := hb1.size; try simp only [World.size_alloc, World.size_drew] at h1z))
    go_ret
    exact ⟨rfl, blw⟩
  have d1 : decide (800 < (n : Int)) = false := by simp; omega
  by_cases hbig2 : 40 < nI
  · have d2 : decide (40 < (nI : Int)) = true := by simp; omega
    go_enter Try.func12, Try.ntmps12
    go_wp2_with (first | (go_at_call 30; (with_reducible refine (HSP.out _ (by exact blw)).mono ?_); rintro e w1 ⟨rfl, hb1⟩; have h1c := bc hb1; have h1f := bf hb1; have h1z := hb1.size; try simp only [World.size_alloc, World.size_drew] at h1z))
    go_ret
    exact ⟨rfl, blw⟩
  have d2 : decide (40 < (nI : Int)) = false := by simp; omega
  go_enter Try.func12, Try.ntmps12
  go_wp2_with (first | (go_at_call 30; (with_reducible refine (HSP.out _ (by exact blw)).mono ?_); rintro e w1 ⟨rfl, hb1⟩; have h1c := bc hb1; have h1f := bf hb1; have h1z := hb1.size; try simp only [World.size_alloc, World.size_drew] at h1z))
  obtain ⟨W, hW⟩ : ∃ W, W = w1.alloc (Obj.cells #[.pointer none] 75) := ⟨_, rfl⟩
  have hb : Below w.heap.size w W := by rw [hW]; exact blw
  have hbw : Below w1.heap.size w1 W := by rw [hW]; exact blw
  have hz : W.heap.size = w1.heap.size + 1 := by rw [hW]; simp
  have hw1 : w.heap.size < w1.heap.size := by omega
  have z2 : W.heap[w.heap.size]? = some (.cells #[.slice a n c] 22 (0, 0)) := (hbw.block _ hw1).trans ((hb1.block _ (by simp)).trans (by rw [heap_push, if_pos rfl]))
  have z6 : W.heap[w1.heap.size]? = some (.cells #[.pointer none] 75 (0, 0)) := by rw [hW, heap_push, if_pos (by simp)]
  rw [← hW]
  have HB := Lib.hid hb
  have HT := Lib.hid (try_any 36 _ W (ITake1 w.heap.size w1.heap.size W w1.heap.size bs) (enter_it1 _)
    (it1_any w.heap.size w1.heap.size a n c bs w.heap.size w1.heap.size (.pointer none) W (HH.out.below hb) (fun h0 => (BHas.of_has HH.out (Nat.le_refl _) h0).below hb) HL.out hn hc (Nat.le_refl _) (by omega) (cell_of_heap z2 0) z6))
  have Z2 := Lib.hid z2
  have Z6 := Lib.hid z6
  clear hW hb hbw z2 z6 h1c h1f hb1
  refine HT.out.mono ?_
  rintro r w2 ⟨ok, rfl, (⟨rfl, rs, S, gt, hok, hG, hM, hb2, hz2⟩ | ⟨rfl, hno, hb2⟩)⟩
  case inr =>
    have HBw := Lib.hid (HB.out.trans (hb2.mono (by omega)))
    have HRD := Lib.hid (iread_none a n c bs 40 40 rfl w2 (HH.out.below HBw.out) HL.out (by omega) (by decide) (by decide) hno)
    have q2 := cell_of_heap ((hb2.block _ (by omega)).trans Z2.out) 0
    have q6 := cell_of_heap ((hb2.block _ (by omega)).trans Z6.out) 0
    simp only [List.getElem?_toArray, List.getElem?_cons_zero] at q2 q6
    have hz2 := hb2.size
    clear hb2 hno HT
    go_wp2_with (first | (go_at_call 32; (with_reducible refine (HRD.out).mono ?_); rintro e w3 ⟨rfl, hb3⟩; have h3c := bc hb3; have h3f := bf hb3; have h3z := hb3.size; try simp only [World.size_alloc, World.size_drew] at h3z))
    go_ret
    exact ⟨rfl, HBw.out.trans (Below.mono (show Below w2.heap.size w2 _ from by exact blw) HBw.out.size)⟩
  have HBw := Lib.hid (HB.out.trans (hb2.mono (by omega)))
  have q2 := cell_of_heap ((hb2.block w.heap.size (by omega)).trans Z2.out) 0
  have q6 := cell_of_heap hG 0
  simp only [List.getElem?_toArray, List.getElem?_cons_zero] at q2 q6
  have HM := Lib.hid hM
  have HG := Lib.hid hG
  have HOK := Lib.hid hok
  have HRD := Lib.hid (iread_some a n c bs 40 40 rfl rs S w2 (HH.out.below HBw.out) HL.out (by omega) (by decide) (by decide) hok)
  have l6 := (Array.getElem?_eq_some_iff.1 hG).1
  have HRUN := Lib.hid (fun (Lx Bm gt gl : Nat) (a : Option Addr) (c : Nat) (W : World) (hLx : Lx ≤ w.heap.size) (hT : IIs Lx Bm gt bs rs S W) (hG : GIs w.heap.size gl a c (newG ids) W) (hB : w.heap.size ≤ W.heap.size) (hgl : w.heap.size ≤ gl) => show Calls Try.prog 34 #[.pointer (some ⟨gt, 0, none⟩), .pointer (some ⟨gl, 0, none⟩), .int .i64 50] W _ from irun_any Lx Bm gt bs 40 rs S w.heap.size gl a c (newG ids) 50 50 W hT hok (by decide) (by decide) hLx hgl hG hB (newG_idsC HIW.out) rfl (by rw [newG_length, HIL.out]; omega))
  have hRL : (insD bs rs (bs.drop (num bs 16 4)) 50 (newG ids)).1.1.length ≤ 1000000 := by
    have := insD_in bs rs (bs.drop (num bs 16 4)) 50 (newG ids)
    rw [this.1, newG_length, HIL.out]
    omega
  obtain ⟨ans, hans⟩ : ∃ ans : Int, ans = if (insD bs rs (bs.drop (num bs 16 4)) 50 (newG ids)).1.2.2.2 = true then (4 : Int) else (((insD bs rs (bs.drop (num bs 16 4)) 50 (newG ids)).2.2 : Nat) : Int) := ⟨_, rfl⟩
  rw [← hans] at HRUN
  clear hans
  generalize insD bs rs (bs.drop (num bs 16 4)) 50 (newG ids) = RR at *
  obtain ⟨⟨R, _, PT, _⟩, _, E⟩ := RR
  simp only at HRUN hRL
  clear hok hG hM hb2 HT
  go_wp2_with (first
    | (go_at_call 32; (with_reducible refine HRD.out.mono ?_); rintro e w3 ⟨gu, rfl, hU, hb3⟩; have HU := Lib.hid hU; have HM3 := Lib.hid (HM.out.below hb3); have h3c := bc hb3; have h3f := bf hb3; have h3z := hb3.size; have HB3 := Lib.hid (HBw.out.trans (hb3.mono HBw.out.size)); have q63 := cell_of_heap ((hb3.block w1.heap.size l6).trans HG.out) 0; simp only [List.getElem?_toArray, List.getElem?_cons_zero] at q63; have Z63 := Lib.hid ((hb3.block w1.heap.size l6).trans HG.out); clear hU)
    | (go_at_call 17; (with_reducible refine (gnew_any aI nI cI ids w3 (HI.out.below HB3.out) HIL.out (by omega)).mono ?_); rintro e w4 ⟨gx, ax, cx, rfl, hGx, hgx, hb4⟩; have HGX := Lib.hid hGx; have HB34 := Lib.hid hb4; have HB4 := Lib.hid (HB3.out.trans (hb4.mono HB3.out.size)); have hgx0 : w.heap.size ≤ gx := Nat.le_trans HB3.out.size hgx; clear hGx hgx hb4)
    | (go_at_call 17
       (with_reducible refine (gnew_any aI nI cI ids w4 (HI.out.below HB4.out) HIL.out (by omega)).mono ?_)
       rintro e w5 ⟨gy, ay, cy, rfl, hGy, hgy, hb5⟩
       have hb35 := HB34.out.trans (hb5.mono HB34.out.size)
       have HGX5 := Lib.hid ((HGX.out.below hb5).mono HB3.out.size)
       have HGY5 := Lib.hid (hGy.mono HB4.out.size)
       have HNE := Lib.hid (show ∀ k, ay.map (·.block) = some k → ax.map (·.block) ≠ some k from fun k hk hx => by have h1 := (hGy.rowIn k hk).1; have h2 := (HGX.out.rowIn k hx).2; omega)
       have hgxy : gy ≠ gx := by have := (Array.getElem?_eq_some_iff.1 HGX.out.hd).1; omega
       have HNX := Lib.hid (show ∀ a6, RowOf (ax.map (·.block)) w5.heap.size a6 → ∀ k, a6.map (·.block) = some k → ay.map (·.block) ≠ some k from fun a6 hr k hk hy => by
         rcases hr k hk with e | e
         · have h1 := (hGy.rowIn k hy).1
           have h2 := (HGX.out.rowIn k e).2
           omega
         · have h2 := (hGy.rowIn k hy).2
           omega)
       have HB5 := Lib.hid (HB4.out.trans (hb5.mono HB4.out.size))
       have hgy0 : w.heap.size ≤ gy := Nat.le_trans HB4.out.size hgy
       have HM5 := Lib.hid (HM3.out.below hb35)
       have HU5 := Lib.hid (HU.out.below hb35)
       have q65 := cell_of_heap ((hb35.block w1.heap.size (Array.getElem?_eq_some_iff.1 Z63.out).1).trans Z63.out) 0
       simp only [List.getElem?_toArray, List.getElem?_cons_zero] at q65
       clear hGy hgy hb5 hb35)
    | (go_at_call 34
       (with_reducible refine (HRUN.out _ _ _ _ _ _ w5 (Nat.le_refl _) HM5.out HGX5.out HB5.out.size hgx0).mono ?_)
       rintro e w6 ⟨rfl, ⟨ax6, cx6, hGx6, hbk6⟩, hk6⟩
       have HGX6 := Lib.hid hGx6
       have HBK6 := Lib.hid hbk6
       have HGY6 := Lib.hid (HGY5.out.keepQ hk6 hgxy HNE.out)
       have HU6 := Lib.hid (HU5.out.keepQ hk6 (Nat.zero_le _))
       have HB6 := Lib.hid (HB5.out.trans hk6.below)
       clear hGx6 hk6 hbk6)
    | (go_at_call 34
       (with_reducible refine (HRUN.out _ _ _ _ _ _ w6 (Nat.zero_le _) HU6.out HGY6.out HB6.out.size hgy0).mono ?_)
       rintro e w7 ⟨rfl, ⟨ay7, cy7, hGy7, _⟩, hk7⟩
       have HGY7 := Lib.hid hGy7
       have HGX7 := Lib.hid (HGX6.out.keepQ hk7 hgxy.symm (HNX.out _ HBK6.out))
       have HB7 := Lib.hid (HB6.out.trans hk7.below)
       clear hGy7 hk7)
    | (go_at_call 22; (with_reducible refine (gglyphs_any w.heap.size gx ax6 cx6 R w7 HGX7.out hRL).mono ?_); rintro e w8 ⟨a8, c8, rfl, ho, _, _, _, hb8⟩; have HH8 := Lib.hid (has_of_owns ho); have HGY8 := Lib.hid (HGY7.out.below hb8); have HB8 := Lib.hid (HB7.out.trans (hb8.mono HB7.out.size)); clear ho hb8)
    | (go_at_call 22; (with_reducible refine (gglyphs_any w.heap.size gy ay7 cy7 R w8 HGY8.out hRL).mono ?_); rintro e w9 ⟨a9, c9, rfl, ho, _, _, _, hb9⟩; have HH9 := Lib.hid (has_of_owns ho); have HH8' := Lib.hid (HH8.out.below hb9); have HB9 := Lib.hid (HB8.out.trans (hb9.mono HB8.out.size)); clear ho hb9)
    | (go_at_call 21; (with_reducible refine (refSameG_any _ _ R.length _ R.length _ R R w9 HH8'.out rfl HH9.out rfl hRL hRL).mono ?_); rintro e w10 ⟨rfl, hb10⟩; rw [decide_eq_true rfl]; have HB10 := Lib.hid (HB9.out.trans (hb10.mono HB9.out.size)); clear hb10))
  go_ret
  exact ⟨rfl, HB10.out⟩

open Go.ChangeShapes Go.WideShapes Go.ChangeAt Go.RowKit
open Go.ChangeMaps (open_string shut_string)

set_option maxRecDepth 100000 in
theorem insTakes_walks (H : Type) (enc : TypeId × Value → H) : Walks H enc 12 [22, 23] := by
  intro W base args ds p hval hA _
  obtain ⟨v0, vs0, d0, ds0, p0, q0, hargs, rfl, rfl, h0, r0⟩ := trodAll_cons hA
  obtain ⟨v1, vs1, d1, ds1, p1, q1, rfl, rfl, rfl, h1, r1⟩ := trodAll_cons r0
  obtain ⟨rfl, rfl, rfl⟩ := trodAll_nil r1
  obtain rfl : args = #[v0, v1] := by cases args; simp_all
  obtain ⟨a0, n0, c0, x0, rfl, e0, f0, g0, j0, k0⟩ := open_bytes Try.underlying22 Try.underlying5 (by kernel_rfl) (hval 0 22 v0 rfl rfl) h0
  obtain ⟨a, n, c, ids, rfl, hl, _, _, _, hi, hz⟩ := open_ids (hval 1 23 v1 rfl rfl) h1
  exact insTakes_walk a0 n0 c0 x0 a n c ids W e0 f0 g0 j0 hi hl hz

set_option maxRecDepth 100000 in
theorem insTakes_lifted (os : Os) (started : os.Started) (H : Type) (enc : TypeId × Value → H) :
    ReturnsInHanded {} Try.checked os 12 .any (Rows.insTakesSpec.pre6 enc Try.prog Try.f12 Rows.insTakesRow.domain false) (Rows.insTakesSpec.post enc Try.prog Try.f12 false true false false) :=
  lift_law (s := Rows.insTakesSpec) (fn := Try.f12) started (by kernel_rfl) Try.func12
    (ChangeSpec.witness6 (enc := enc) (C := Try.checked) false ⟨#[], #[.slice none 0 0, .slice none 0 0], []⟩ 8 (by kernel_rfl) (by kernel_rfl) (by kernel_rfl) (by kernel_rfl))
    rfl rfl (fun ds h => by match ds, h with | [d0, d1], _ => rfl) (by intro t ht; simp [Try.params12] at ht; first | (subst ht; exact ⟨by kernel_rfl, of_decide_eq_true (by kernel_rfl)⟩) | (obtain rfl | rfl := ht <;> exact ⟨by kernel_rfl, of_decide_eq_true (by kernel_rfl)⟩) | (obtain rfl | rfl | rfl := ht <;> exact ⟨by kernel_rfl, of_decide_eq_true (by kernel_rfl)⟩) | (obtain rfl | rfl | rfl | rfl := ht <;> exact ⟨by kernel_rfl, of_decide_eq_true (by kernel_rfl)⟩))
    (by rw [Try.params12]; exact insTakes_walks H enc)
theorem insTakes_over : Rows.insTakesRow.holds Try.pinned (OpenSpec.ofChange Rows.insTakesSpec) :=
  OpenClaim.holds_of_wide 12 Try.f12 rfl rfl rfl rfl rfl rfl rfl ⟨rfl, rfl, rfl, rfl, rfl⟩ rfl rfl rfl rfl rfl (by kernel_rfl) Try.func12 (by kernel_rfl)
    (of_decide_eq_true (by kernel_rfl)) (by unfold Func.isWrapper; first | (rw [if_pos (by decide +kernel)]; kernel_rfl) | (rw [if_neg (by decide +kernel)]; exact ⟨rfl, rfl⟩))
    (fun os started H enc _ => insTakes_lifted os started H enc)
theorem insTakes_proved : Rows.InsTakesSaid := insTakes_over
#print axioms insTakes_proved
end Go.Proofs.Ytlgkikmmpnnnfaa
