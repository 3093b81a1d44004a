
/- Package feat: Read. Conditions: as many bytes as the slice says. -/
import Derived.Test.YtfnghinefbmlmaaFeatD
import Derived.Test.YtfnghinefbmlmaaTry
namespace Go.Proofs.Ytfnghinefbmlmaa
open Go.RowKit Go.Lib

structure FtMem (B : Nat) (bs : List UInt8) (g : Nat) (hs : List Nat) (w : World) : Prop where
  row : w.ownsRow B 36 4 (.slice (some ⟨g, 0, none⟩) (num bs 4 2) (num bs 4 2)) (num bs 4 2) (ftV bs 0 hs)
  is : FtIs B bs hs w
  len : hs.length = num bs 4 2
theorem FtMem.below {B g : Nat} {bs : List UInt8} {hs : List Nat} {w w' : World} (h : FtMem B bs g hs w) (hb : Below w.heap.size w w') : FtMem B bs g hs w' := ⟨owns_below h.row hb (Nat.le_refl _), h.is.below hb, h.len⟩
theorem FtMem.mono {B B' g : Nat} {bs : List UInt8} {hs : List Nat} {w : World} (h : FtMem B bs g hs w) (hB : B' ≤ B) : FtMem B' bs g hs w := ⟨owns_mono h.row hB, ⟨fun i x hx => owns_mono (h.is.each i x hx) hB⟩, h.len⟩
/-- A store into a block of another kind. -/
theorem FtMem.setOther {B g g3 o : Nat} {bs : List UInt8} {hs : List Nat} {w : World} {cs : Array Value} {t : Nat} {fz : Nat × Nat} (h : FtMem B bs g hs w) (hw : w.heap[g3]? = some (.cells cs t fz)) (h1 : t ≠ 36) (h2 : t ≠ 3) (v : Value) : FtMem B bs g hs (w.setCell ⟨g3, o, none⟩ v) :=
  ⟨set_owns v h.row (own_neE h.row hw h1), ⟨fun i x hx => set_owns v (h.is.each i x hx) (own_neE (h.is.each i x hx) hw h2)⟩, h.len⟩
def FRead1R (B : Nat) (w : World) (g1 : Nat) (bs : List UInt8) (ok : Bool) (w' : World) : Prop :=
  (ok = true ∧ ∃ g hs, FtOk bs ∧ w'.heap[g1]? = some (.cells #[.slice (some ⟨g, 0, none⟩) (num bs 4 2) (num bs 4 2)] 28 (0, 0)) ∧ FtMem w.heap.size bs g hs w' ∧ Below B w w' ∧ w.heap.size ≤ w'.heap.size) ∨
  (ok = false ∧ ¬ FtOk bs ∧ Below w.heap.size w w')
theorem enter_fread1 (args : Array Value) (w : World) : (callFunc 28 args).run Try.prog w = .ok (.enter 28 args) w := by kernel_rfl
set_option maxRecDepth 100000 in
set_option maxHeartbeats 1600000 in
theorem fread1_any (B : Nat) (a : Option Addr) (n c : Nat) (bs : List UInt8) (g0 g1 : Nat) (x : Value) (w : World) (h : Has w a (bytesV bs)) (hl : bs.length = n) (hn : n ≤ c) (hc : c ≤ maxLen) (hB : B ≤ g1)
    (c0 : w.cell? ⟨g0, 0, none⟩ = some (.slice a n c)) (c1 : w.heap[g1]? = some (.cells #[x] 28 (0, 0))) :
    Calls Try.prog 28 #[.pointer (some ⟨g0, 0, none⟩), .pointer (some ⟨g1, 0, none⟩)] w
      fun e w' => (e = .returned (.tuple #[]) ∧ FRead1R B w g1 bs true w') ∨ (e = .panicked thrown ∧ FRead1R B w g1 bs false w') := by
  have C1 := Lib.hid c1
  have l0 := cell_lt c0
  have l1 := (Array.getElem?_eq_some_iff.1 c1).1
  simp only at l0
  have HT := Lib.hid (fun W (hW : Below w.heap.size w W) => ftake_any a n c bs W (h.below hW) hl hn hc)
  clear h hl c1
  go_enter Try.func28, Try.ntmps28
  go_wp2_with (first | (go_at_call 30; (with_reducible refine (of_any _ _ _ _).mono ?_); rintro e wa ⟨rfl, hba⟩; have hac := bc hba; have haf := bf hba; have haz := hba.size; try simp only [World.size_alloc, World.size_drew] at haz))
  refine (HT.out _ (by exact blw)).mono ?_
  rintro e wb ⟨(⟨g, hs, hok, hlen, rfl, hrow, his⟩ | ⟨hno, rfl⟩), hbb⟩
  case inr =>
    have HNO := Lib.hid hno
    have HBB := Lib.hid (show Below w.heap.size w wb from blw)
    clear hno hbb hba hac haf
    go_wp2_with fail
    exact ⟨rfl, .inr ⟨rfl, .inr ⟨rfl, HNO.out, HBB.out⟩⟩⟩
  have HM := Lib.hid (show FtMem wa.heap.size bs g hs wb from ⟨hrow, his, hlen⟩)
  have HBB := Lib.hid (show Below w.heap.size w wb from blw)
  have HOK := Lib.hid hok
  have c1b := (HBB.out.block g1 l1).trans C1.out
  have HC1 := Lib.hid c1b
  have q1 := cell_of_heap c1b 0
  have f1 := froz_of_heap c1b 0
  have hwa : w.heap.size ≤ wa.heap.size := haz
  clear hrow his hok hbb hba hac haf c1b hlen
  go_wp2_with fail
  go_end0
  refine .inl ⟨rfl, .inl ⟨rfl, g, hs, HOK.out, set_heap_at _ HC1.out, ?_, (HBB.out.mono (by omega)).setCell (p := ⟨g1, 0, none⟩) hB _, by simp; exact HBB.out.size⟩⟩
  exact (HM.out.mono hwa).setOther (o := 0) HC1.out (by decide) (by decide) _
def FReadIs (bs : List UInt8) (w : World) (e : Ending) (w' : World) : Prop :=
  ((∃ g hs, FtOk bs ∧ e = .returned (.tuple #[.slice (some ⟨g, 0, none⟩) (num bs 4 2) (num bs 4 2), .int .i64 0]) ∧ FtMem w.heap.size bs g hs w') ∨
   (¬ FtOk bs ∧ e = .returned (.tuple #[.slice none 0 0, .int .i64 2]))) ∧ Below w.heap.size w w'
set_option maxRecDepth 100000 in
set_option maxHeartbeats 1600000 in
theorem fread_any (a : Option Addr) (n c : Nat) (bs : List UInt8) (w : World) (h : Has w a (bytesV bs)) (hl : bs.length = n) (hn : n ≤ c) (hc : c ≤ maxLen) :
    Calls Try.prog 12 #[.slice a n c] w (FReadIs bs w) := by
  have HH := Lib.hid h
  have HL := Lib.hid hl
  clear h hl
  have hAC := allocC
  have hAF := allocF
  have hmf : ∀ (fn : Fn) (first cap : Array Value) (w : World), (Instr.makeFunc fn first cap).run Try.prog w = .ok (.func fn first cap) w := fun _ _ _ _ => rfl
  go_enter Try.func12, Try.ntmps12
  go_wp2_with fail
  obtain ⟨W, hW⟩ : ∃ W, W = (w.alloc (Obj.cells #[.slice a n c] 32)).alloc (Obj.cells #[.slice none 0 0] 28) := ⟨_, rfl⟩
  have hb : Below w.heap.size w W := by rw [hW]; exact blw
  have hz : W.heap.size = w.heap.size + 2 := by rw [hW]; simp
  have c0 : W.cell? ⟨w.heap.size, 0, none⟩ = some (.slice a n c) := by rw [hW]; simp [hAC]
  have c1 : W.heap[w.heap.size + 1]? = some (.cells #[.slice none 0 0] 28 (0, 0)) := by rw [hW, heap_push, if_pos (by simp)]
  rw [← hW]
  clear hW
  have HB := Lib.hid hb
  clear hb
  have HT := Lib.hid (try_any 28 _ W (FRead1R w.heap.size W (w.heap.size + 1) bs) (enter_fread1 _)
    (fread1_any w.heap.size a n c bs _ _ _ _ (HH.out.below HB.out) HL.out hn hc (by omega) c0 c1))
  have C1 := Lib.hid c1
  clear c0 c1
  refine HT.out.mono ?_
  rintro r w2 ⟨ok, rfl, (⟨rfl, g, hs, hok, hG, hm, hb2, hz2⟩ | ⟨rfl, hno, hb2⟩)⟩
  case inr =>
    have HNO := Lib.hid hno
    have HB2 := Lib.hid (HB.out.trans (hb2.mono HB.out.size))
    have h1 := (hb2.block (w.heap.size + 1) (by omega)).trans C1.out
    have q1 := cell_of_heap h1 0
    have f1 := fun o => froz_of_heap h1 o
    simp only [List.getElem?_toArray, List.getElem?_cons_zero] at q1
    have hl1 := cell_lt q1
    simp only at hl1
    clear hno hb2 HT h1 hz
    go_wp2_with fail
    refine bodyPost_ret (v := .tuple #[.slice none 0 0, .int .i64 2]) (by simp [results, Try.results12, go_sem, q1, f1]) rfl ?_
    exact ⟨.inr ⟨HNO.out, rfl⟩, by repeat (first | with_reducible exact HB2.out | refine bset ?_ (by show w.heap.size ≤ w.heap.size + 1; omega) _)⟩
  have HOK := Lib.hid hok
  have HB2 := Lib.hid (HB.out.trans hb2)
  have HM := Lib.hid hm
  have HG := Lib.hid hG
  have q1 := cell_of_heap hG 0
  have f1 := fun o => froz_of_heap hG o
  simp only [List.getElem?_toArray, List.getElem?_cons_zero] at q1
  have hl1 := cell_lt q1
  simp only at hl1
  have HZ := Lib.hid hz
  clear hok hb2 hG hm HT hz
  generalize hN : num bs 4 2 = N at *
  have HN := Lib.hid hN
  clear hN
  go_wp2_with fail
  refine bodyPost_ret (v := .tuple #[.slice (some ⟨g, 0, none⟩) N N, .int .i64 0]) (by simp [results, Try.results12, go_sem, q1, f1]) rfl ?_
  refine ⟨.inl ⟨g, hs, HOK.out, by rw [HN.out], ?_⟩, by repeat (first | with_reducible exact HB2.out | refine bset ?_ (by show w.heap.size ≤ w.heap.size + 1; omega) _)⟩
  have hm := HM.out.mono (show w.heap.size ≤ W.heap.size from HB.out.size)
  have hg := HG.out
  repeat (first | with_reducible exact hm | (refine FtMem.setOther ?_ (by first | exact hg | exact set_heap_at _ hg | exact set_heap_at _ (set_heap_at _ hg)) (by decide) (by decide) _))
end Go.Proofs.Ytfnghinefbmlmaa
