
/- The contract of face.Read. Conditions: as many bytes as the slice says, no more than its capacity. -/
import Derived.Test.YthacabmnnpibkaaFaceT
import Derived.Test.YthacabmnnpibkaaTry
namespace Go.Proofs.Ythacabmnnpibkaa
open Go.RowKit Go.Lib

def faceV (g e m : Nat) : Value := .agg #[.int .i64 (g : Nat), .int .i64 (e : Nat), .int .i64 (m : Nat)]
def FacR (B : Nat) (W : World) (g1 : Nat) (bs : List UInt8) (ok : Bool) (w' : World) : Prop :=
  (ok = true ∧ ∃ g e m, Good bs g e m ∧ g ≤ 65535 ∧ Below B W w' ∧ W.heap.size ≤ w'.heap.size ∧ w'.cell? ⟨g1, 0, none⟩ = some (.int .i64 (g : Nat)) ∧ w'.cell? ⟨g1, 1, none⟩ = some (.int .i64 (e : Nat)) ∧ w'.cell? ⟨g1, 2, none⟩ = some (.int .i64 (m : Nat)) ∧ (∀ o, w'.frozen? ⟨g1, o, none⟩ = false)) ∨ (ok = false ∧ (∀ g e m, ¬ Good bs g e m) ∧ Below W.heap.size W w')
theorem set_three_cells {w : World} {g : Nat} {x0 x1 x2 : Value} (u0 u1 u2 : Value) (h0 : w.cell? ⟨g, 0, none⟩ = some x0) (h1 : w.cell? ⟨g, 1, none⟩ = some x1) (h2 : w.cell? ⟨g, 2, none⟩ = some x2) (hf : ∀ o, w.frozen? ⟨g, o, none⟩ = false) :
    (((w.setCell ⟨g, 0, none⟩ u0).setCell ⟨g, 1, none⟩ u1).setCell ⟨g, 2, none⟩ u2).cell? ⟨g, 0, none⟩ = some u0 ∧ (((w.setCell ⟨g, 0, none⟩ u0).setCell ⟨g, 1, none⟩ u1).setCell ⟨g, 2, none⟩ u2).cell? ⟨g, 1, none⟩ = some u1 ∧
    (((w.setCell ⟨g, 0, none⟩ u0).setCell ⟨g, 1, none⟩ u1).setCell ⟨g, 2, none⟩ u2).cell? ⟨g, 2, none⟩ = some u2 ∧ ∀ o, (((w.setCell ⟨g, 0, none⟩ u0).setCell ⟨g, 1, none⟩ u1).setCell ⟨g, 2, none⟩ u2).frozen? ⟨g, o, none⟩ = false := by
  obtain ⟨cs, t, fz, hg⟩ : ∃ cs t fz, w.heap[g]? = some (.cells cs t fz) := by
    unfold World.cell? at h0
    split at h0
    · exact ⟨_, _, _, by assumption⟩
    · cases h0
  have hg' := (Array.getElem?_eq_some_iff.1 hg).1
  simp only [World.cell?, hg, Option.isSome_none, Bool.false_eq_true, if_false] at h0 h1 h2
  have k0 := (Array.getElem?_eq_some_iff.1 h0).1
  have k1 := (Array.getElem?_eq_some_iff.1 h1).1
  have k2 := (Array.getElem?_eq_some_iff.1 h2).1
  have hh : (((w.setCell ⟨g, 0, none⟩ u0).setCell ⟨g, 1, none⟩ u1).setCell ⟨g, 2, none⟩ u2).heap[g]? = some (.cells (((cs.setIfInBounds 0 u0).setIfInBounds 1 u1).setIfInBounds 2 u2) t fz) := by
    simp [World.setCell, Array.getElem?_modify, hg]
  refine ⟨?_, ?_, ?_, fun o => ?_⟩
  · simp only [World.cell?, hh]; simp [Array.getElem?_setIfInBounds, k0]
  · simp only [World.cell?, hh]; simp [Array.getElem?_setIfInBounds, k1]
  · simp only [World.cell?, hh]; simp [Array.getElem?_setIfInBounds, k2]
  · have := hf o
    simp only [World.frozen?, hg] at this
    simp only [World.frozen?, hh]
    exact this

set_option maxRecDepth 100000 in
set_option maxHeartbeats 800000 in
theorem fread1_any (B : Nat) (a : Option Addr) (n c : Nat) (bs : List UInt8) (g0 g1 : Nat) (x0 x1 x2 : Value) (w : World) (h : Has w a (bytesV bs)) (hl : bs.length = n) (hn : n ≤ c) (hc : c ≤ maxLen) (n0 : ¬ g0 = g1) (hB : B ≤ g1)
    (c0 : w.cell? ⟨g0, 0, none⟩ = some (.slice a n c)) (d0 : w.cell? ⟨g1, 0, none⟩ = some x0) (d1 : w.cell? ⟨g1, 1, none⟩ = some x1) (d2 : w.cell? ⟨g1, 2, none⟩ = some x2) (f1 : ∀ o, w.frozen? ⟨g1, o, none⟩ = false) :
    Calls Try.prog 22 #[.pointer (some ⟨g0, 0, none⟩), .pointer (some ⟨g1, 0, none⟩)] w fun e w' => (e = .returned (.tuple #[]) ∧ FacR B w g1 bs true w') ∨ (e = .panicked thrown ∧ FacR B w g1 bs false w') := by
  have HH := Lib.hid h
  have HL := Lib.hid hl
  have l0 := cell_lt c0
  have l1 := cell_lt d0
  simp only at l0 l1
  clear h hl
  go_enter Try.func22, Try.ntmps22
  go_wp2_with fail
  refine (ftake_any _ _ _ bs _ HH.out HL.out hn hc).mono ?_
  rintro r w2 ⟨(⟨g, e, m, hG, hg, rfl⟩ | ⟨hf, rfl⟩), hb2⟩
  · have h2c := bc hb2
    have h2f := bf hb2
    have h2z := hb2.size
    have HB := Lib.hid hb2
    have HG := Lib.hid hG
    clear hb2 hG
    go_wp2
    go_end0
    have p0 := (HB.out.cell (p := ⟨g1, 0, none⟩) l1).trans d0
    have p1 := (HB.out.cell (p := ⟨g1, 1, none⟩) l1).trans d1
    have p2 := (HB.out.cell (p := ⟨g1, 2, none⟩) l1).trans d2
    have pf := fun o => (HB.out.frozen (p := ⟨g1, o, none⟩) l1).trans (f1 o)
    obtain ⟨s0, s1, s2, s3⟩ := set_three_cells (.int .i64 (g : Nat)) (.int .i64 (e : Nat)) (.int .i64 (m : Nat)) p0 p1 p2 pf
    have hBB : Below B w w2 := HB.out.mono (by omega)
    exact .inl ⟨rfl, .inl ⟨rfl, g, e, m, HG.out, hg, ((hBB.setCell (p := ⟨g1, 0, none⟩) hB _).setCell (p := ⟨g1, 1, none⟩) hB _).setCell (p := ⟨g1, 2, none⟩) hB _, by simp; omega, s0, s1, s2, s3⟩⟩
  · have HB := Lib.hid hb2
    have HF := Lib.hid hf
    clear hb2 hf
    go_wp2
    exact ⟨rfl, .inr ⟨rfl, .inr ⟨rfl, HF.out, HB.out⟩⟩⟩
theorem enter_fread1 (args : Array Value) (w : World) : (callFunc 22 args).run Try.prog w = .ok (.enter 22 args) w := by kernel_rfl

set_option maxRecDepth 100000 in
set_option maxHeartbeats 800000 in
theorem fread_any (a : Option Addr) (n c : Nat) (bs : List UInt8) (w : World) (h : Has w a (bytesV bs)) (hl : bs.length = n) (hn : n ≤ c) (hc : c ≤ maxLen) :
    Calls Try.prog 11 #[.slice a n c] w fun r w' => ((∃ g e m, Good bs g e m ∧ g ≤ 65535 ∧ r = .returned (.tuple #[faceV g e m, .int .i64 0])) ∨ ((∀ g e m, ¬ Good bs g e m) ∧ r = .returned (.tuple #[faceV 0 0 0, .int .i64 2]))) ∧ Below w.heap.size w w' := by
  have HH := Lib.hid h
  have HL := Lib.hid hl
  clear h hl
  have hAC := allocC
  have hAF := allocF
  go_enter Try.func11, Try.ntmps11
  go_wp2_with fail
  obtain ⟨W, hW⟩ : ∃ W, W = (w.alloc (Obj.cells #[.slice a n c] 22)).alloc (Obj.cells #[.int .i64 0, .int .i64 0, .int .i64 0] 29) := ⟨_, rfl⟩
  have hb : Below w.heap.size w W := by rw [hW]; exact (by repeat (first | exact brefl _ | assumption | refine balloc ?_ _ | refine bdrew ?_ _ | refine bdrew1 ?_ | refine bthen ?_ (by assumption) | refine Below.trans ?_ (by assumption) | (refine bset ?_ (by first | (simp; done) | (simp; omega)) _)))
  have hz : W.heap.size = w.heap.size + 2 := by rw [hW]; simp
  have c0 : W.cell? ⟨w.heap.size, 0, none⟩ = some (.slice a n c) := by rw [hW]; simp [hAC]
  have d0 : W.cell? ⟨w.heap.size + 1, 0, none⟩ = some (.int .i64 0) := by rw [hW]; simp [hAC]
  have d1 : W.cell? ⟨w.heap.size + 1, 1, none⟩ = some (.int .i64 0) := by rw [hW]; simp [hAC]
  have d2 : W.cell? ⟨w.heap.size + 1, 2, none⟩ = some (.int .i64 0) := by rw [hW]; simp [hAC]
  have f1 : ∀ o, W.frozen? ⟨w.heap.size + 1, o, none⟩ = false := fun o => by rw [hW]; simp [hAF]
  rw [← hW]
  clear hW
  refine (try_any _ _ _ (FacR w.heap.size W (w.heap.size + 1) bs) (enter_fread1 _)
    (fread1_any w.heap.size a n c bs _ _ _ _ _ _ (HH.out.below hb) HL.out hn hc (by omega) (by omega) c0 d0 d1 d2 f1)).mono ?_
  have HB := Lib.hid hb
  clear c0 hb
  rintro r w2 ⟨ok, rfl, (⟨rfl, g, e, m, hG, hg, hb1, hz1, q0, q1, q2, qf⟩ | ⟨rfl, hf, hb2⟩)⟩
  · have HB1 := Lib.hid (HB.out.trans hb1)
    have HG := Lib.hid hG
    have l1 : w.heap.size + 1 < w2.heap.size := by omega
    clear d0 d1 d2 f1 hb1 hG
    go_wp2
    refine bodyPost_ret (v := .tuple #[faceV g e m, .int .i64 0]) (by simp [results, Try.results11, go_sem, q0, q1, q2, qf, faceV]) rfl ?_
    exact ⟨.inl ⟨g, e, m, HG.out, hg, rfl⟩, bset (bset (bset HB1.out (by simp) _) (by simp) _) (by simp) _⟩
  · have q0 := (hb2.cell (p := ⟨w.heap.size + 1, 0, none⟩) (by rw [hz]; simp)).trans d0
    have q1 := (hb2.cell (p := ⟨w.heap.size + 1, 1, none⟩) (by rw [hz]; simp)).trans d1
    have q2 := (hb2.cell (p := ⟨w.heap.size + 1, 2, none⟩) (by rw [hz]; simp)).trans d2
    have qf := fun o => (hb2.frozen (p := ⟨w.heap.size + 1, o, none⟩) (by rw [hz]; simp)).trans (f1 o)
    have HB1 := Lib.hid (HB.out.trans (hb2.mono HB.out.size))
    have HF := Lib.hid hf
    clear d0 d1 d2 f1 hb2 hf
    go_wp2
    refine bodyPost_ret (v := .tuple #[faceV 0 0 0, .int .i64 2]) (by simp [results, Try.results11, go_sem, q0, q1, q2, qf, faceV]) rfl ?_
    exact ⟨.inr ⟨HF.out, rfl⟩, bset (bset (bset HB1.out (by simp) _) (by simp) _) (by simp) _⟩
end Go.Proofs.Ythacabmnnpibkaa
