
/- PlaceDoes returns true for every direction, every advances and every changes, and changes nothing: whatever changes come, all places are the document's. No condition beside the row's own. -/
import Derived.Test.YtbicnkopmamnpaaJ01
import Derived.Test.YtbicnkopmamnpaaJ06
import Derived.Test.YtbicnkopmamnpaaJ04
import Derived.Lib.SmallJoins
namespace Go.Proofs.Ytbicnkopmamnpaa
open Go.RowKit Go.Lib

/-- A change: what it does, where, and by which numbers. -/
abbrev PlOp := Int × Int × Int × Int
def po1 (o : PlOp) : List Value := [.int .i64 o.1, .int .i64 o.2.1, .int .i64 o.2.2.1, .int .i64 o.2.2.2]
def opP (d : Bool) (o : PlOp) (l : List Pl) : List Pl :=
  if o.1 = 0 then moreP l o.2.1 o.2.2.1 0 0 else if o.1 = 1 then acrossP d l o.2.1 o.2.2.1 else if o.1 = 2 then levelP d l o.2.1 else if o.1 = 3 then moreP l o.2.1 0 o.2.2.1 o.2.2.2 else if o.1 = 4 then l.reverse else l
theorem acrossP_length (d : Bool) (l : List Pl) (z n : Int) : (acrossP d l z n).length = l.length := by cases d <;> exact moreP_length _ _ _ _ _
theorem acrossP_in {l : List Pl} (h : In32 l) (d : Bool) (z n : Int) : In32 (acrossP d l z n) := by cases d <;> exact moreP_in h _ _ _ _
theorem opP_length (d : Bool) (o : PlOp) (l : List Pl) : (opP d o l).length = l.length := by
  unfold opP
  (repeat' split) <;> simp [moreP_length, acrossP_length, levelP_length]
theorem opP_in {l : List Pl} (h : In32 l) (d : Bool) (o : PlOp) : In32 (opP d o l) := by
  unfold opP
  (repeat' split) <;> first | exact moreP_in h _ _ _ _ | exact acrossP_in h _ _ _ | exact levelP_in h _ _ | exact rev_in h | exact h
theorem po_length : ∀ os : List PlOp, (os.flatMap po1).length = os.length * 4
  | [] => rfl
  | o :: os => by rw [List.flatMap_cons, List.length_append, po_length os, List.length_cons]; simp [po1]; omega
theorem po_get : ∀ {os : List PlOp} {j : Nat} {o : PlOp}, os[j]? = some o → ∀ i, i < 4 → (os.flatMap po1)[j * 4 + i]? = (po1 o)[i]?
  | [], j, o, h, _, _ => by simp at h
  | x :: os, 0, o, h, i, hi => by
    simp at h
    subst h
    rw [List.flatMap_cons, Nat.zero_mul, Nat.zero_add, List.getElem?_append_left (by simp [po1]; exact hi)]
  | x :: os, j + 1, o, h, i, hi => by
    rw [List.flatMap_cons, List.getElem?_append_right (by simp [po1]; omega), show (j + 1) * 4 + i - (po1 x).length = j * 4 + i by simp [po1]; omega]
    exact po_get (by simpa using h) i hi
theorem po_at {w : World} {a : Option Addr} {os : List PlOp} (h : Has w a (os.flatMap po1)) {j : Nat} (hj : j < os.length) : ∃ g b o, a = some ⟨g, b, none⟩ ∧ g < w.heap.size ∧ os[j]? = some o ∧ w.cell? ⟨g, b + j * 4, none⟩ = some (.int .i64 o.1) ∧ w.cell? ⟨g, b + j * 4 + 1, none⟩ = some (.int .i64 o.2.1) ∧ w.cell? ⟨g, b + j * 4 + 2, none⟩ = some (.int .i64 o.2.2.1) ∧ w.cell? ⟨g, b + j * 4 + 3, none⟩ = some (.int .i64 o.2.2.2) := by
  obtain ⟨g, b, ha, hg, hx⟩ := h.get (by rw [po_length]; omega)
  have ho : os[j]? = some os[j] := List.getElem?_eq_getElem hj
  refine ⟨g, b, os[j], ha, hg, ho, hx _ _ (po_get ho 0 (by decide)), ?_, ?_, ?_⟩
  · rw [Nat.add_assoc]; exact hx _ _ (po_get ho 1 (by decide))
  · rw [Nat.add_assoc]; exact hx _ _ (po_get ho 2 (by decide))
  · rw [Nat.add_assoc]; exact hx _ _ (po_get ho 3 (by decide))
set_option maxHeartbeats 12800000 in
set_option maxRecDepth 100000 in
theorem placeDoes_walk (z : Int) (a : Option Addr) (n c : Nat) (ids : List Int) (ao : Option Addr) (N co : Nat) (os : List PlOp) (w : World) (h : Has w a (iv ids)) (hl : ids.length = n) (ho : Has w ao (os.flatMap po1)) (hol : os.length = N) :
    Calls Try.prog 7 #[.int .i64 z, .slice a n c, .slice ao N co] w fun e w' => e = .returned (.bool true) ∧ Below w.heap.size w w' := by
  have hAC := allocC
  have hAF := allocF
  have HSP := Lib.hid (fun W => speaks21_any W)
  have HH := Lib.hid h
  have HL := Lib.hid hl
  have HO := Lib.hid ho
  have HOL := Lib.hid hol
  clear h hl ho hol
  by_cases hbig : 60 < n
  · have d1 : decide (60 < (n : Int)) = true := by simp; omega
    go_enter Try.func7, Try.ntmps7
    go_wp2_with (first | (go_at_call 33; (with_reducible refine (HSP.out _).mono ?_); rintro e w1 ⟨rfl, hb1⟩; have h1c := bc hb1; have h1f := bf hb1; have h1z := hb1.size; try simp only [World.size_alloc, World.size_drew] at h1z))
    go_ret
    exact ⟨rfl, blw⟩
  have d1 : decide (60 < (n : Int)) = false := by simp; omega
  by_cases hbig2 : 100 < N
  · have d2 : decide (100 < (N : Int)) = true := by simp; omega
    go_enter Try.func7, Try.ntmps7
    go_wp2_with (first | (go_at_call 33; (with_reducible refine (HSP.out _).mono ?_); rintro e w1 ⟨rfl, hb1⟩; have h1c := bc hb1; have h1f := bf hb1; have h1z := hb1.size; try simp only [World.size_alloc, World.size_drew] at h1z))
    go_ret
    exact ⟨rfl, blw⟩
  have d2 : decide (100 < (N : Int)) = false := by simp; omega
  have HB2 := Lib.hid (show ∃ b : Bool, (z == 2) = b from ⟨_, rfl⟩)
  obtain ⟨dz, hdz⟩ := HB2.out
  have HDZ := Lib.hid (show decide (z = 2) = dz by rw [← hdz, Bool.eq_iff_iff]; simp)
  go_enter Try.func7, Try.ntmps7
  go_wp2_with (first
    | (go_at_call 33; (with_reducible refine (HSP.out _).mono ?_); rintro e w1 ⟨rfl, hb1⟩; have h1c := bc hb1; have h1f := bf hb1; have h1z := hb1.size; try simp only [World.size_alloc, World.size_drew] at h1z)
    | (go_at_call 38; (with_reducible refine (pnew_any z a n c ids w1 (HH.out.below hb1) HL.out (by omega)).mono ?_); rintro e w3 ⟨g, a3, c3, rfl, hG, hgg, hb3⟩; rw [HDZ.out] at hG; have HG3 := Lib.hid hG; have HB3 := Lib.hid (hb1.trans (hb3.mono h1z)); have hz3 := hb3.size; clear hG hb3)
    | (go_at_call 39; (with_reducible refine (refNewP_any a n c ids w3 (HH.out.below HB3.out) HL.out (by omega)).mono ?_); rintro e w4 ⟨v4, rfl, hr, hb4⟩; have HW4 := Lib.hid (WPl.own HG3.out hr); have HG4 := Lib.hid (HG3.out.below hb4); have HB4 := Lib.hid (HB3.out.trans (hb4.mono HB3.out.size)); have hz4 := hb4.size; clear hr hb4))
  have hgw := (Array.getElem?_eq_some_iff.1 HG4.out.hd).1
  clear hb1 h1c h1f HSP HB3 HG3
  go_loopw [8, 31] (fun v i wr => ∃ (j : Nat) (r : List Pl), j ≤ N ∧ i = .int .i64 (j : Nat) ∧ PlIs w1.heap.size g dz a3 c3 r wr ∧ WPl g a3 r v wr ∧ r.length = n ∧ In32 r ∧ Below w.heap.size w wr ∧ w1.heap.size ≤ wr.heap.size) (fun _ i _ => N - (Go.RowKit.intOf i).toNat)
  case atStart => exact ⟨0, newP ids, Nat.zero_le _, rfl, HG4.out, HW4.out, by rw [newP_length, HL.out], newP_in ids, HB4.out, by omega⟩
  case round =>
    obtain ⟨j, r, hj, rfl, hG, hW, hrl, hri, hb, hz5⟩ := hrel
    have HG5 := Lib.hid hG
    have HW5 := Lib.hid hW
    have HB5 := Lib.hid hb
    have HRI := Lib.hid hri
    have HRL := Lib.hid hrl
    have hzr := hb.size
    obtain ⟨aW, cW, rfl, hWH, hWA, hWc, hWb, _⟩ := hW.ex
    have HWH := Lib.hid hWH
    have HWA := Lib.hid hWA
    clear hG hW hb HG4 HW4 HB4 hri hWH hWA hWb
    by_cases hlt : j < N
    · obtain ⟨go, bo, o, rfl, hgo, hoj, e0, e1, e2, e3⟩ := po_at (HO.out.below HB5.out) (j := j) (by rw [HOL.out]; exact hlt)
      obtain ⟨ok, oz, ox, oy⟩ := o
      simp only at e0 e1 e2 e3
      clear hoj
      have HBA := Lib.hid (show Below wr.heap.size wr (wr.alloc (Obj.cells #[.int .i64 ok, .int .i64 oz, .int .i64 ox, .int .i64 oy] 83)) from balloc (brefl wr) _)
      obtain ⟨W, hW⟩ : ∃ W, W = wr.alloc (Obj.cells #[.int .i64 ok, .int .i64 oz, .int .i64 ox, .int .i64 oy] 83) := ⟨_, rfl⟩
      rw [← hW] at HBA
      have HGW := Lib.hid (HG5.out.below HBA.out)
      have HWW := Lib.hid (HW5.out.below HBA.out)
      have x6 : W.heap[wr.heap.size]? = some (.cells #[.int .i64 ok, .int .i64 oz, .int .i64 ox, .int .i64 oy] 83 (0, 0)) := by rw [hW]; exact (heap_push _ _ _).trans (if_pos rfl)
      have X6 := Lib.hid x6
      have q6 := fun o => cell_of_heap x6 o
      have l6 := (Array.getElem?_eq_some_iff.1 x6).1
      have hgwr := (Array.getElem?_eq_some_iff.1 HG5.out.hd).1
      have HNB := Lib.hid (show wr.heap.size ≠ g ∧ some wr.heap.size ≠ a3.map (·.block) from ⟨by omega, fun e => by
        cases a3 with
        | none => cases e
        | some q => (have e : wr.heap.size = q.block := (by simpa using e)); have := (HG5.out.row.lt q.block rfl).2; omega⟩)
      have hzW : w1.heap.size ≤ W.heap.size := by rw [hW]; simp; omega
      clear x6
      by_cases hk0 : ok = 0
      · subst hk0
        have HRR := Lib.hid (show opP dz (0, oz, ox, oy) r = moreP r oz ox 0 0 from by simp [opP])
        have HRL6 := Lib.hid (show (opP dz (0, oz, ox, oy) r).length = n from by rw [opP_length, HRL.out])
        have HRI6 := Lib.hid (opP_in HRI.out dz (0, oz, ox, oy))
        obtain ⟨R, hR⟩ : ∃ R, R = opP dz (0, oz, ox, oy) r := ⟨_, rfl⟩
        rw [← hR] at HRR HRL6 HRI6
        clear hR
        go_wp2_with fail
        rw [← hW]
        clear hW
        go_wp2_with (first
          | (go_at_call 40; (with_reducible refine (palong_any w1.heap.size g dz a3 c3 r oz ox W HGW.out HRI.out).mono ?_); rintro e w6 ⟨rfl, hG, hS⟩; rw [← HRR.out] at hG; have HG6 := Lib.hid hG; have HS6 := Lib.hid hS; clear hG hS; have hrr := (HS6.out.keep wr.heap.size l6 HNB.out.1 HNB.out.2).trans X6.out; have q6 := (fun o => cell_of_heap hrr o); have l6 := (Array.getElem?_eq_some_iff.1 hrr).1; have HV6 := Lib.hid (HWW.out.step HS6.out); have HZ6 := Lib.hid HS6.out.below.size; clear hrr; have HH6 := Lib.hid (show Has w6 aW (pv r) from by obtain ⟨_, _, he, hh, _⟩ := HV6.out.ex; injection he with e1 e2 e3; subst e1; exact hh))
          | (go_at_call 41; (with_reducible refine (refMoreP_any aW n cW r oz ox 0 0 w6 HH6.out HRL.out (by omega) HWA.out HRI.out).mono ?_); rintro e w7 ⟨v7, rfl, hr, hb7⟩; rw [← HRR.out] at hr; have HV7 := Lib.hid (WPl.own HG6.out hr); have HG7 := Lib.hid (HG6.out.below hb7); have HB7 := Lib.hid ((HB5.out.trans ((HBA.out.mono hzr))).trans ((HS6.out.below.trans (hb7.mono (Nat.le_trans hzW HZ6.out))).mono (by omega))); have h7z := hb7.size; clear hr hb7; obtain ⟨aY, cY, rfl, _⟩ := HV7.out.ex; rw [HRL6.out])
          | (go_at_call 50; (with_reducible refine (pall_any _ g _ a3 c3 _ _ HG7.out (by rw [HRL6.out]; omega)).mono ?_); rintro e w8 ⟨a8, c8, rfl, ho, _, _, _, hb8⟩; rw [HRL6.out] at ho; rw [HRL6.out]; have HM8 := Lib.hid (has_of_owns ho); have HV8 := Lib.hid (HV7.out.below hb8); have HG8 := Lib.hid (HG7.out.below hb8); have HB8 := Lib.hid (HB7.out.trans (hb8.mono HB7.out.size)); have h8z := hb8.size; clear ho hb8) | (go_at_call 49; obtain ⟨aX, cX, eX, hX, _⟩ := HV8.out.ex; injection eX with e1X e2X e3X; subst e1X e3X; with_reducible refine (refSameP_any a8 aY n c8 n cY R R _ HM8.out HRL6.out hX HRL6.out (by omega) (by omega)).mono ?_; rintro e w9 ⟨rfl, hb9⟩; rw [decide_eq_true rfl]; have HV9 := Lib.hid (HV8.out.below hb9); have HG9 := Lib.hid (HG8.out.below hb9); have HB9 := Lib.hid (HB8.out.trans (hb9.mono HB8.out.size)); have h9z := hb9.size; clear hb9 hX))
        go_roundw
        case rel => exact ⟨j + 1, R, hlt, by go_num, HG9.out, by have := HV9.out; rw [HRL6.out] at this; exact this, HRL6.out, HRI6.out, HB9.out, by have := HZ6.out; omega⟩
        case measure => simp [Go.RowKit.intOf]; omega
      by_cases hk1 : ok = 1
      · subst hk1
        have HRR := Lib.hid (show opP dz (1, oz, ox, oy) r = acrossP dz r oz ox from by simp [opP])
        have HRL6 := Lib.hid (show (opP dz (1, oz, ox, oy) r).length = n from by rw [opP_length, HRL.out])
        have HRI6 := Lib.hid (opP_in HRI.out dz (1, oz, ox, oy))
        obtain ⟨R, hR⟩ : ∃ R, R = opP dz (1, oz, ox, oy) r := ⟨_, rfl⟩
        rw [← hR] at HRR HRL6 HRI6
        clear hR
        go_wp2_with fail
        rw [← hW]
        clear hW
        go_wp2_with (first
          | (go_at_call 42; (with_reducible refine (pcross_any w1.heap.size g dz a3 c3 r oz ox W HGW.out HRI.out).mono ?_); rintro e w6 ⟨rfl, hG, hS⟩; rw [← HRR.out] at hG; have HG6 := Lib.hid hG; have HS6 := Lib.hid hS; clear hG hS; have hrr := (HS6.out.keep wr.heap.size l6 HNB.out.1 HNB.out.2).trans X6.out; have q6 := (fun o => cell_of_heap hrr o); have l6 := (Array.getElem?_eq_some_iff.1 hrr).1; have HV6 := Lib.hid (HWW.out.step HS6.out); have HZ6 := Lib.hid HS6.out.below.size; clear hrr; have HH6 := Lib.hid (show Has w6 aW (pv r) from by obtain ⟨_, _, he, hh, _⟩ := HV6.out.ex; injection he with e1 e2 e3; subst e1; exact hh))
          | (go_at_call 43; (with_reducible refine (refAcrossP_any dz aW n cW r oz ox w6 HH6.out HRL.out (by omega) HWA.out HRI.out).mono ?_); rintro e w7 ⟨v7, rfl, hr, hb7⟩; rw [← HRR.out] at hr; have HV7 := Lib.hid (WPl.own HG6.out hr); have HG7 := Lib.hid (HG6.out.below hb7); have HB7 := Lib.hid ((HB5.out.trans ((HBA.out.mono hzr))).trans ((HS6.out.below.trans (hb7.mono (Nat.le_trans hzW HZ6.out))).mono (by omega))); have h7z := hb7.size; clear hr hb7; obtain ⟨aY, cY, rfl, _⟩ := HV7.out.ex; rw [HRL6.out])
          | (go_at_call 50; (with_reducible refine (pall_any _ g _ a3 c3 _ _ HG7.out (by rw [HRL6.out]; omega)).mono ?_); rintro e w8 ⟨a8, c8, rfl, ho, _, _, _, hb8⟩; rw [HRL6.out] at ho; rw [HRL6.out]; have HM8 := Lib.hid (has_of_owns ho); have HV8 := Lib.hid (HV7.out.below hb8); have HG8 := Lib.hid (HG7.out.below hb8); have HB8 := Lib.hid (HB7.out.trans (hb8.mono HB7.out.size)); have h8z := hb8.size; clear ho hb8) | (go_at_call 49; obtain ⟨aX, cX, eX, hX, _⟩ := HV8.out.ex; injection eX with e1X e2X e3X; subst e1X e3X; with_reducible refine (refSameP_any a8 aY n c8 n cY R R _ HM8.out HRL6.out hX HRL6.out (by omega) (by omega)).mono ?_; rintro e w9 ⟨rfl, hb9⟩; rw [decide_eq_true rfl]; have HV9 := Lib.hid (HV8.out.below hb9); have HG9 := Lib.hid (HG8.out.below hb9); have HB9 := Lib.hid (HB8.out.trans (hb9.mono HB8.out.size)); have h9z := hb9.size; clear hb9 hX))
        go_roundw
        case rel => exact ⟨j + 1, R, hlt, by go_num, HG9.out, by have := HV9.out; rw [HRL6.out] at this; exact this, HRL6.out, HRI6.out, HB9.out, by have := HZ6.out; omega⟩
        case measure => simp [Go.RowKit.intOf]; omega
      by_cases hk2 : ok = 2
      · subst hk2
        have HRR := Lib.hid (show opP dz (2, oz, ox, oy) r = levelP dz r oz from by simp [opP])
        have HRL6 := Lib.hid (show (opP dz (2, oz, ox, oy) r).length = n from by rw [opP_length, HRL.out])
        have HRI6 := Lib.hid (opP_in HRI.out dz (2, oz, ox, oy))
        obtain ⟨R, hR⟩ : ∃ R, R = opP dz (2, oz, ox, oy) r := ⟨_, rfl⟩
        rw [← hR] at HRR HRL6 HRI6
        clear hR
        go_wp2_with fail
        rw [← hW]
        clear hW
        go_wp2_with (first
          | (go_at_call 44; (with_reducible refine (plevel_any w1.heap.size g dz a3 c3 r oz W HGW.out).mono ?_); rintro e w6 ⟨rfl, hG, hS⟩; rw [← HRR.out] at hG; have HG6 := Lib.hid hG; have HS6 := Lib.hid hS; clear hG hS; have hrr := (HS6.out.keep wr.heap.size l6 HNB.out.1 HNB.out.2).trans X6.out; have q6 := (fun o => cell_of_heap hrr o); have l6 := (Array.getElem?_eq_some_iff.1 hrr).1; have HV6 := Lib.hid (HWW.out.step HS6.out); have HZ6 := Lib.hid HS6.out.below.size; clear hrr; have HH6 := Lib.hid (show Has w6 aW (pv r) from by obtain ⟨_, _, he, hh, _⟩ := HV6.out.ex; injection he with e1 e2 e3; subst e1; exact hh))
          | (go_at_call 45; (with_reducible refine (refLevelP_any dz aW n cW r oz w6 HH6.out HRL.out (by omega) HWA.out).mono ?_); rintro e w7 ⟨v7, rfl, hr, hb7⟩; rw [← HRR.out] at hr; have HV7 := Lib.hid (WPl.own HG6.out hr); have HG7 := Lib.hid (HG6.out.below hb7); have HB7 := Lib.hid ((HB5.out.trans ((HBA.out.mono hzr))).trans ((HS6.out.below.trans (hb7.mono (Nat.le_trans hzW HZ6.out))).mono (by omega))); have h7z := hb7.size; clear hr hb7; obtain ⟨aY, cY, rfl, _⟩ := HV7.out.ex; rw [HRL6.out])
          | (go_at_call 50; (with_reducible refine (pall_any _ g _ a3 c3 _ _ HG7.out (by rw [HRL6.out]; omega)).mono ?_); rintro e w8 ⟨a8, c8, rfl, ho, _, _, _, hb8⟩; rw [HRL6.out] at ho; rw [HRL6.out]; have HM8 := Lib.hid (has_of_owns ho); have HV8 := Lib.hid (HV7.out.below hb8); have HG8 := Lib.hid (HG7.out.below hb8); have HB8 := Lib.hid (HB7.out.trans (hb8.mono HB7.out.size)); have h8z := hb8.size; clear ho hb8) | (go_at_call 49; obtain ⟨aX, cX, eX, hX, _⟩ := HV8.out.ex; injection eX with e1X e2X e3X; subst e1X e3X; with_reducible refine (refSameP_any a8 aY n c8 n cY R R _ HM8.out HRL6.out hX HRL6.out (by omega) (by omega)).mono ?_; rintro e w9 ⟨rfl, hb9⟩; rw [decide_eq_true rfl]; have HV9 := Lib.hid (HV8.out.below hb9); have HG9 := Lib.hid (HG8.out.below hb9); have HB9 := Lib.hid (HB8.out.trans (hb9.mono HB8.out.size)); have h9z := hb9.size; clear hb9 hX))
        go_roundw
        case rel => exact ⟨j + 1, R, hlt, by go_num, HG9.out, by have := HV9.out; rw [HRL6.out] at this; exact this, HRL6.out, HRI6.out, HB9.out, by have := HZ6.out; omega⟩
        case measure => simp [Go.RowKit.intOf]; omega
      by_cases hk3 : ok = 3
      · subst hk3
        have HRR := Lib.hid (show opP dz (3, oz, ox, oy) r = moreP r oz 0 ox oy from by simp [opP])
        have HRL6 := Lib.hid (show (opP dz (3, oz, ox, oy) r).length = n from by rw [opP_length, HRL.out])
        have HRI6 := Lib.hid (opP_in HRI.out dz (3, oz, ox, oy))
        obtain ⟨R, hR⟩ : ∃ R, R = opP dz (3, oz, ox, oy) r := ⟨_, rfl⟩
        rw [← hR] at HRR HRL6 HRI6
        clear hR
        go_wp2_with fail
        rw [← hW]
        clear hW
        go_wp2_with (first
          | (go_at_call 46; (with_reducible refine (pshift_any w1.heap.size g dz a3 c3 r oz ox oy W HGW.out HRI.out).mono ?_); rintro e w6 ⟨rfl, hG, hS⟩; rw [← HRR.out] at hG; have HG6 := Lib.hid hG; have HS6 := Lib.hid hS; clear hG hS; have hrr := (HS6.out.keep wr.heap.size l6 HNB.out.1 HNB.out.2).trans X6.out; have q6 := (fun o => cell_of_heap hrr o); have l6 := (Array.getElem?_eq_some_iff.1 hrr).1; have HV6 := Lib.hid (HWW.out.step HS6.out); have HZ6 := Lib.hid HS6.out.below.size; clear hrr; have HH6 := Lib.hid (show Has w6 aW (pv r) from by obtain ⟨_, _, he, hh, _⟩ := HV6.out.ex; injection he with e1 e2 e3; subst e1; exact hh))
          | (go_at_call 41; (with_reducible refine (refMoreP_any aW n cW r oz 0 ox oy w6 HH6.out HRL.out (by omega) HWA.out HRI.out).mono ?_); rintro e w7 ⟨v7, rfl, hr, hb7⟩; rw [← HRR.out] at hr; have HV7 := Lib.hid (WPl.own HG6.out hr); have HG7 := Lib.hid (HG6.out.below hb7); have HB7 := Lib.hid ((HB5.out.trans ((HBA.out.mono hzr))).trans ((HS6.out.below.trans (hb7.mono (Nat.le_trans hzW HZ6.out))).mono (by omega))); have h7z := hb7.size; clear hr hb7; obtain ⟨aY, cY, rfl, _⟩ := HV7.out.ex; rw [HRL6.out])
          | (go_at_call 50; (with_reducible refine (pall_any _ g _ a3 c3 _ _ HG7.out (by rw [HRL6.out]; omega)).mono ?_); rintro e w8 ⟨a8, c8, rfl, ho, _, _, _, hb8⟩; rw [HRL6.out] at ho; rw [HRL6.out]; have HM8 := Lib.hid (has_of_owns ho); have HV8 := Lib.hid (HV7.out.below hb8); have HG8 := Lib.hid (HG7.out.below hb8); have HB8 := Lib.hid (HB7.out.trans (hb8.mono HB7.out.size)); have h8z := hb8.size; clear ho hb8) | (go_at_call 49; obtain ⟨aX, cX, eX, hX, _⟩ := HV8.out.ex; injection eX with e1X e2X e3X; subst e1X e3X; with_reducible refine (refSameP_any a8 aY n c8 n cY R R _ HM8.out HRL6.out hX HRL6.out (by omega) (by omega)).mono ?_; rintro e w9 ⟨rfl, hb9⟩; rw [decide_eq_true rfl]; have HV9 := Lib.hid (HV8.out.below hb9); have HG9 := Lib.hid (HG8.out.below hb9); have HB9 := Lib.hid (HB8.out.trans (hb9.mono HB8.out.size)); have h9z := hb9.size; clear hb9 hX))
        go_roundw
        case rel => exact ⟨j + 1, R, hlt, by go_num, HG9.out, by have := HV9.out; rw [HRL6.out] at this; exact this, HRL6.out, HRI6.out, HB9.out, by have := HZ6.out; omega⟩
        case measure => simp [Go.RowKit.intOf]; omega
      by_cases hk4 : ok = 4
      · subst hk4
        have HRR := Lib.hid (show opP dz (4, oz, ox, oy) r = r.reverse from by simp [opP])
        have HRL6 := Lib.hid (show (opP dz (4, oz, ox, oy) r).length = n from by rw [opP_length, HRL.out])
        have HRI6 := Lib.hid (opP_in HRI.out dz (4, oz, ox, oy))
        obtain ⟨R, hR⟩ : ∃ R, R = opP dz (4, oz, ox, oy) r := ⟨_, rfl⟩
        rw [← hR] at HRR HRL6 HRI6
        clear hR
        go_wp2_with fail
        rw [← hW]
        clear hW
        go_wp2_with (first
          | (go_at_call 47; (with_reducible refine (pturn_any w1.heap.size g dz a3 c3 r W HGW.out (by rw [HRL.out]; omega)).mono ?_); rintro e w6 ⟨rfl, hG, hS⟩; rw [← HRR.out] at hG; have HG6 := Lib.hid hG; have HS6 := Lib.hid hS; clear hG hS; have hrr := (HS6.out.keep wr.heap.size l6 HNB.out.1 HNB.out.2).trans X6.out; have q6 := (fun o => cell_of_heap hrr o); have l6 := (Array.getElem?_eq_some_iff.1 hrr).1; have HV6 := Lib.hid (HWW.out.step HS6.out); have HZ6 := Lib.hid HS6.out.below.size; clear hrr; have HH6 := Lib.hid (show Has w6 aW (pv r) from by obtain ⟨_, _, he, hh, _⟩ := HV6.out.ex; injection he with e1 e2 e3; subst e1; exact hh))
          | (go_at_call 48; (with_reducible refine (refTurnP_any aW n cW r w6 HH6.out HRL.out (by omega)).mono ?_); rintro e w7 ⟨v7, rfl, hr, hb7⟩; rw [← HRR.out] at hr; have HV7 := Lib.hid (WPl.own HG6.out hr); have HG7 := Lib.hid (HG6.out.below hb7); have HB7 := Lib.hid ((HB5.out.trans ((HBA.out.mono hzr))).trans ((HS6.out.below.trans (hb7.mono (Nat.le_trans hzW HZ6.out))).mono (by omega))); have h7z := hb7.size; clear hr hb7; obtain ⟨aY, cY, rfl, _⟩ := HV7.out.ex; rw [HRL6.out])
          | (go_at_call 50; (with_reducible refine (pall_any _ g _ a3 c3 _ _ HG7.out (by rw [HRL6.out]; omega)).mono ?_); rintro e w8 ⟨a8, c8, rfl, ho, _, _, _, hb8⟩; rw [HRL6.out] at ho; rw [HRL6.out]; have HM8 := Lib.hid (has_of_owns ho); have HV8 := Lib.hid (HV7.out.below hb8); have HG8 := Lib.hid (HG7.out.below hb8); have HB8 := Lib.hid (HB7.out.trans (hb8.mono HB7.out.size)); have h8z := hb8.size; clear ho hb8) | (go_at_call 49; obtain ⟨aX, cX, eX, hX, _⟩ := HV8.out.ex; injection eX with e1X e2X e3X; subst e1X e3X; with_reducible refine (refSameP_any a8 aY n c8 n cY R R _ HM8.out HRL6.out hX HRL6.out (by omega) (by omega)).mono ?_; rintro e w9 ⟨rfl, hb9⟩; rw [decide_eq_true rfl]; have HV9 := Lib.hid (HV8.out.below hb9); have HG9 := Lib.hid (HG8.out.below hb9); have HB9 := Lib.hid (HB8.out.trans (hb9.mono HB8.out.size)); have h9z := hb9.size; clear hb9 hX))
        go_roundw
        case rel => exact ⟨j + 1, R, hlt, by go_num, HG9.out, by have := HV9.out; rw [HRL6.out] at this; exact this, HRL6.out, HRI6.out, HB9.out, by have := HZ6.out; omega⟩
        case measure => simp [Go.RowKit.intOf]; omega
      have t0 : (ok == 0) = false := beq_eq_false_iff_ne.2 hk0
      have t1 : (ok == 1) = false := beq_eq_false_iff_ne.2 hk1
      have t2 : (ok == 2) = false := beq_eq_false_iff_ne.2 hk2
      have t3 : (ok == 3) = false := beq_eq_false_iff_ne.2 hk3
      have t4 : (ok == 4) = false := beq_eq_false_iff_ne.2 hk4
      go_wp2_with fail
      rw [← hW]
      clear hW
      rw [HRL.out]
      go_wp2_with (first | (go_at_call 50; (with_reducible refine (pall_any _ g _ a3 c3 _ _ HGW.out (by rw [HRL.out]; omega)).mono ?_); rintro e w8 ⟨a8, c8, rfl, ho, _, _, _, hb8⟩; rw [HRL.out] at ho; rw [HRL.out]; have HM8 := Lib.hid (has_of_owns ho); have HV8 := Lib.hid (HWW.out.below hb8); have HG8 := Lib.hid (HGW.out.below hb8); have HB8 := Lib.hid ((HB5.out.trans (HBA.out.mono hzr)).trans (hb8.mono (HB5.out.trans (HBA.out.mono hzr)).size)); have h8z := hb8.size; clear ho hb8) | (go_at_call 49; obtain ⟨aX, cX, eX, hX, _⟩ := HV8.out.ex; injection eX with e1X e2X e3X; subst e1X e3X; with_reducible refine (refSameP_any a8 aW n c8 n cW r r _ HM8.out HRL.out hX HRL.out (by omega) (by omega)).mono ?_; rintro e w9 ⟨rfl, hb9⟩; rw [decide_eq_true rfl]; have HV9 := Lib.hid (HV8.out.below hb9); have HG9 := Lib.hid (HG8.out.below hb9); have HB9 := Lib.hid (HB8.out.trans (hb9.mono HB8.out.size)); have h9z := hb9.size; clear hb9 hX))
      go_roundw
      case rel => exact ⟨j + 1, r, hlt, by go_num, HG9.out, by have := HV9.out; rw [HRL.out] at this; exact this, HRL.out, HRI.out, HB9.out, by omega⟩
      case measure => simp [Go.RowKit.intOf]; omega
    · obtain rfl : N = j := by omega
      rw [HRL.out]
      have HLN := Lib.hid (plen_any w1.heap.size g dz a3 c3 r)
      rw [HRL.out] at HLN
      go_wp2_with (first | (go_at_call 50; (with_reducible refine (pall_any _ g _ a3 c3 _ _ HG5.out (by rw [HRL.out]; omega)).mono ?_); rintro e w8 ⟨a8, c8, rfl, ho, _, _, _, hb8⟩; rw [HRL.out] at ho; rw [HRL.out]; have HM8 := Lib.hid (has_of_owns ho); have HV8 := Lib.hid (HW5.out.below hb8); have HG8 := Lib.hid (HG5.out.below hb8); have HB8 := Lib.hid (HB5.out.trans (hb8.mono HB5.out.size)); have h8z := hb8.size; clear ho hb8) | (go_at_call 49; obtain ⟨aX, cX, eX, hX, _⟩ := HV8.out.ex; injection eX with e1X e2X e3X; subst e1X e3X; with_reducible refine (refSameP_any a8 aW n c8 n cW r r _ HM8.out HRL.out hX HRL.out (by omega) (by omega)).mono ?_; rintro e w9 ⟨rfl, hb9⟩; rw [decide_eq_true rfl]; have HV9 := Lib.hid (HV8.out.below hb9); have HG9 := Lib.hid (HG8.out.below hb9); have HB9 := Lib.hid (HB8.out.trans (hb9.mono HB8.out.size)); have h9z := hb9.size; clear hb9 hX) | (go_at_call 51; (with_reducible refine (HLN.out _ HG9.out).mono ?_); rintro e w_ ⟨rfl, rfl⟩))
      go_ret
      exact ⟨by first | rfl | simp, HB9.out⟩

open Go.ChangeShapes Go.WideShapes Go.ChangeAt Go.RowKit
open Go.ChangeMaps (open_string shut_string)

section
variable {H : Type} {enc : TypeId × Value → H}
set_option maxRecDepth 100000 in
theorem open_plops {W : World} {base : Nat} {v : Value} {d : DataW H} {p : List MemPlace} (hv : Value.okWide Try.prog W .any base 77 v) (h : DataW.Trod enc Try.prog W 0 (fun _ => true) true 77 v d p) :
    ∃ (a : Option Addr) (n c : Nat) (os : List PlOp), v = .slice a n c ∧ os.length = n ∧ Has W a (os.flatMap po1) := by
  obtain ⟨a, n, c, us, rfl, hl, _, _, _, hh, hx⟩ := open_rows Try.underlying77 hv h
  have key : ∀ us : List (List Value), (∀ x ∈ us, x.length = Try.prog.cellsOf 83 ∧ ∃ m y, DataW.trod enc Try.prog W 0 (fun _ => true) true m 83 x = some y) → ∃ os : List PlOp, os.length = us.length ∧ us.flatten = os.flatMap po1 := by
    intro us
    induction us with
    | nil => exact fun _ => ⟨[], rfl, rfl⟩
    | cons x us ih =>
      intro h
      obtain ⟨os, q1, q2⟩ := ih (fun y hy => h y (by simp [hy]))
      obtain ⟨hlx, m, y, hy⟩ := h x (by simp)
      obtain ⟨y0, y1, y2, y3, k, _, _, t0, t1, t2, t3⟩ := Go.Joins.trod_struct4 Try.underlying83 hy
      have ce : Try.prog.cellsOf 83 = 4 := by kernel_rfl
      have c0 : Try.prog.cellsOf 3 = 1 := by kernel_rfl
      rw [ce] at hlx
      simp only [c0] at t0 t1 t2 t3
      match x, hlx with
      | [x0, x1, x2, x3], _ =>
        simp only [List.drop_zero, List.drop_succ_cons, List.take_succ_cons, List.take_zero] at t0 t1 t2 t3
        obtain ⟨z0, e0, _, w0⟩ := DataW.trod_int Try.underlying3 t0
        obtain ⟨z1, e1, _, w1⟩ := DataW.trod_int Try.underlying3 t1
        obtain ⟨z2, e2, _, w2⟩ := DataW.trod_int Try.underlying3 t2
        obtain ⟨z3, e3, _, w3⟩ := DataW.trod_int Try.underlying3 t3
        simp only [List.cons.injEq, and_true] at e0 e1 e2 e3
        subst e0 e1 e2 e3
        exact ⟨(z0, z1, z2, z3) :: os, by simp [q1], by rw [List.flatten_cons, q2]; rfl⟩
  obtain ⟨os, q1, q2⟩ := key us hx
  exact ⟨a, n, c, os, rfl, q1.trans hl, q2 ▸ hh⟩
end
set_option maxRecDepth 100000 in
theorem placeDoes_walks (H : Type) (enc : TypeId × Value → H) : Walks H enc 7 [3, 30, 77] := by
  intro W base args ds p hval hA _
  obtain ⟨v0, vs0, d0, ds0, p0, q0, hargs, rfl, rfl, h0, r0⟩ := trodAll_cons hA
  obtain ⟨v1, vs1, d1, ds1, p1, q1, rfl, rfl, rfl, h1, r1⟩ := trodAll_cons r0
  obtain ⟨v2, vs2, d2, ds2, p2, q2, rfl, rfl, rfl, h2, r2⟩ := trodAll_cons r1
  obtain ⟨rfl, rfl, rfl⟩ := trodAll_nil r2
  obtain rfl : args = #[v0, v1, v2] := by cases args; simp_all
  obtain ⟨z, rfl, t0⟩ := open_int Try.underlying3 (hval 0 3 v0 rfl rfl) h0
  obtain ⟨a, n, c, ids, rfl, hl, _, _, _, hi, _⟩ := open_ids (hval 1 30 v1 rfl rfl) h1
  obtain ⟨ao, N, co, os, rfl, hol, ho⟩ := open_plops (hval 2 77 v2 rfl rfl) h2
  exact placeDoes_walk z a n c ids ao N co os W hi hl ho hol

set_option maxRecDepth 100000 in
theorem placeDoes_lifted (os : Os) (started : os.Started) (H : Type) (enc : TypeId × Value → H) :
    ReturnsInHanded {} Try.checked os 7 .any (Rows.placeDoesSpec.pre6 enc Try.prog Try.f7 Rows.placeDoesRow.domain false) (Rows.placeDoesSpec.post enc Try.prog Try.f7 false true false false) :=
  lift_law (s := Rows.placeDoesSpec) (fn := Try.f7) started (by kernel_rfl) Try.func7
    (ChangeSpec.witness6 (enc := enc) (C := Try.checked) false ⟨#[], #[.int .i64 0, .slice none 0 0, .slice none 0 0], []⟩ 8 (by kernel_rfl) (by kernel_rfl) (by kernel_rfl) (by kernel_rfl))
    rfl rfl (fun ds h => by match ds, h with | [d0, d1, d2], _ => rfl) (by intro t ht; simp [Try.params7] at ht; first | (subst ht; exact ⟨by kernel_rfl, of_decide_eq_true (by kernel_rfl)⟩) | (obtain rfl | rfl := ht <;> exact ⟨by kernel_rfl, of_decide_eq_true (by kernel_rfl)⟩) | (obtain rfl | rfl | rfl := ht <;> exact ⟨by kernel_rfl, of_decide_eq_true (by kernel_rfl)⟩) | (obtain rfl | rfl | rfl | rfl := ht <;> exact ⟨by kernel_rfl, of_decide_eq_true (by kernel_rfl)⟩))
    (by rw [Try.params7]; exact placeDoes_walks H enc)
theorem placeDoes_over : Rows.placeDoesRow.holds Try.pinned (OpenSpec.ofChange Rows.placeDoesSpec) :=
  OpenClaim.holds_of_wide 7 Try.f7 rfl rfl rfl rfl rfl rfl rfl ⟨rfl, rfl, rfl, rfl, rfl⟩ rfl rfl rfl rfl rfl (by kernel_rfl) Try.func7 (by kernel_rfl)
    (of_decide_eq_true (by kernel_rfl)) (by unfold Func.isWrapper; first | (rw [if_pos (by decide +kernel)]; kernel_rfl) | (rw [if_neg (by decide +kernel)]; exact ⟨rfl, rfl⟩))
    (fun os started H enc _ => placeDoes_lifted os started H enc)
theorem placeDoes_proved : Rows.PlaceDoesSaid := placeDoes_over
#print axioms placeDoes_proved
end Go.Proofs.Ytbicnkopmamnpaa
