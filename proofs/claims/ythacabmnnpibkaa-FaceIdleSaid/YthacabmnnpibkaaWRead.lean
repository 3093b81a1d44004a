
/- The contract of width.Read. Conditions: as many bytes as the slice says, no more than its capacity. -/
import Derived.Test.YthacabmnnpibkaaWTake
import Derived.Test.YthacabmnnpibkaaFaceR
namespace Go.Proofs.Ythacabmnnpibkaa
open Go.RowKit Go.Lib

theorem good_met {bs : List UInt8} {g e m : Nat} (h : Good bs g e m) : 1 ≤ m ∧ m ≤ g ∧ 0 < bs.length ∧ 16 ≤ e := by
  obtain ⟨i, _, _, hx⟩ := h
  have h1 := hx.met
  have h2 := hx.t1.1.1.1.six
  have h3 := hx.em
  omega
def WRead1R (W : World) (gw g e m : Nat) (bs : List UInt8) (ok : Bool) (w' : World) : Prop :=
  (ok = true ∧ ∃ i, hmtxOk bs g m i ∧ WDone W.heap.size gw g e m (tabB bs i) w' ∧ Same W [gw] w') ∨ (ok = false ∧ (∀ i, ¬ hmtxOk bs g m i) ∧ Same W [gw] w')
theorem enter_wread1 (args : Array Value) (w : World) : (callFunc 26 args).run Try.prog w = .ok (.enter 26 args) w := by kernel_rfl

set_option maxRecDepth 100000 in
set_option maxHeartbeats 1600000 in
theorem wread1_any (B : Nat) (gw g6 g1 : Nat) (a : Option Addr) (n c g e m : Nat) (bs : List UInt8) (w : World) (h : Has w a (bytesV bs)) (hl : bs.length = n) (hn : n ≤ c) (hc : c ≤ maxLen)
    (hgw : w.heap[gw]? = some (.cells (widV g e m (.slice none 0 0) (.slice none 0 0)) 59 (0, 0))) (hm : m ≤ g) (hg : g ≤ 65535) (hne : ∀ p, a = some p → p.block ≠ gw) (hB : B ≤ gw)
    (c6 : w.cell? ⟨g6, 0, none⟩ = some (.pointer (some ⟨gw, 0, none⟩))) (c1 : w.cell? ⟨g1, 0, none⟩ = some (.slice a n c)) :
    Calls Try.prog 26 #[.pointer (some ⟨g6, 0, none⟩), .pointer (some ⟨g1, 0, none⟩)] w fun r w' => ((r = .returned (.tuple #[]) ∧ WRead1R w gw g e m bs true w') ∨ (r = .panicked thrown ∧ WRead1R w gw g e m bs false w')) ∧ Below B w w' := by
  have HT := Lib.hid (wtake_any B gw a n c g e m bs w h hl hn hc hgw hm hg hne hB)
  clear h hgw
  go_enter Try.func26, Try.ntmps26
  go_wp2_with fail
  refine HT.out.mono ?_
  rintro r w2 ⟨(⟨i, hi, rfl, hd⟩ | ⟨hno, rfl⟩), hs, hb⟩
  · have HD := Lib.hid hd
    have HS := Lib.hid hs
    have HB := Lib.hid hb
    have HI := Lib.hid hi
    clear hd hs hb hi HT
    go_wp2_with fail
    go_end0
    exact ⟨.inl ⟨rfl, .inl ⟨rfl, i, HI.out, HD.out, HS.out⟩⟩, HB.out⟩
  · have HS := Lib.hid hs
    have HB := Lib.hid hb
    have HI := Lib.hid hno
    clear hs hb hno HT
    go_wp2_with fail
    exact ⟨rfl, .inr ⟨rfl, .inr ⟨rfl, HI.out, HS.out⟩⟩, HB.out⟩

def WReadIs (bs : List UInt8) (w : World) (r : Ending) (w' : World) : Prop :=
  ((∃ g e m i gw, Good bs g e m ∧ g ≤ 65535 ∧ hmtxOk bs g m i ∧ r = .returned (.tuple #[.pointer (some ⟨gw, 0, none⟩), .int .i64 0]) ∧ WDone w.heap.size gw g e m (tabB bs i) w' ∧ w.heap.size ≤ gw) ∨
   ((∀ g e m i, Good bs g e m → ¬ hmtxOk bs g m i) ∧ r = .returned (.tuple #[.pointer none, .int .i64 2]))) ∧ Below w.heap.size w w'
theorem good_one {bs : List UInt8} {g e m g' e' m' : Nat} (h : Good bs g e m) (h' : Good bs g' e' m') : g = g' ∧ e = e' ∧ m = m' := by
  obtain ⟨i, j, k, hx⟩ := h
  obtain ⟨i', j', k', hy⟩ := h'
  obtain rfl := found_one hx.t1.1 hy.t1.1
  obtain rfl := found_one hx.t2.1 hy.t2.1
  obtain rfl := found_one hx.t3.1 hy.t3.1
  exact ⟨hx.ng.symm.trans hy.ng, hx.ne.symm.trans hy.ne, hx.nm.symm.trans hy.nm⟩

theorem WDone.mono {base base' gw g e m : Nat} {T : List UInt8} {w : World} (h : WDone base gw g e m T w) (hb : base' ≤ base) : WDone base' gw g e m T w := by
  obtain ⟨a1, c1, a2, c2, h0, h1, h2, h3⟩ := h
  exact ⟨a1, c1, a2, c2, h0, owns_mono h1 hb, owns_mono h2 hb, h3⟩
theorem WDone.below {base gw g e m : Nat} {T : List UInt8} {w w' : World} (h : WDone base gw g e m T w) (hb : Below w.heap.size w w') : WDone base gw g e m T w' := by
  obtain ⟨a1, c1, a2, c2, h0, h1, h2, h3⟩ := h
  exact ⟨a1, c1, a2, c2, (hb.block gw (Array.getElem?_eq_some_iff.1 h0).1).trans h0, owns_below h1 hb (Nat.le_refl _), owns_below h2 hb (Nat.le_refl _), h3⟩

set_option maxRecDepth 100000 in
set_option maxHeartbeats 3200000 in
theorem wread_any (a : Option Addr) (n c : Nat) (bs : List UInt8) (w : World) (h : Has w a (bytesV bs)) (hl : bs.length = n) (hn : n ≤ c) (hc : c ≤ maxLen) :
    Calls Try.prog 14 #[.slice a n c] w (WReadIs bs w) := by
  have HH := Lib.hid h
  have HL := Lib.hid hl
  clear h hl
  have hAC := allocC
  have hAF := allocF
  have hmf : ∀ (fn : Fn) (first cap : Array Value) (w : World), (Instr.makeFunc fn first cap).run Try.prog w = .ok (.func fn first cap) w := fun _ _ _ _ => rfl
  go_enter Try.func14, Try.ntmps14
  go_wp2_with fail
  refine (fread_any a n c bs _ (HH.out.below (by repeat (first | exact brefl _ | assumption | refine balloc ?_ _ | refine bdrew ?_ _ | refine bdrew1 ?_ | refine bthen ?_ (by assumption) | refine Below.trans ?_ (by assumption) | (refine bset ?_ (by first | (simp; done) | (simp; omega)) _)))) HL.out hn hc).mono ?_
  rintro r w1 ⟨(⟨g, e, m, hG, hg, rfl⟩ | ⟨hno, rfl⟩), hb1⟩
  case inr =>
    have HNO := Lib.hid hno
    have HB1 := Lib.hid (show Below w.heap.size w w1 from (by repeat (first | exact brefl _ | assumption | refine balloc ?_ _ | refine bdrew ?_ _ | refine bdrew1 ?_ | refine bthen ?_ (by assumption) | refine Below.trans ?_ (by assumption) | (refine bset ?_ (by first | (simp; done) | (simp; omega)) _))))
    have hz1 := HB1.out.size
    clear hno hb1
    unfold faceV
    go_wp2_with fail
    go_ret2
    exact ⟨.inr ⟨fun g e m i hG => absurd hG (HNO.out g e m), rfl⟩, HB1.out.trans ((balloc (brefl w1) _).mono hz1)⟩
  have c1 := (hb1.cell (p := ⟨w.heap.size, 0, none⟩) (by simp)).trans (show _ = some (.slice a n c) by rw [hAC, if_pos rfl]; rfl)
  have HB1 := Lib.hid (show Below w.heap.size w w1 from (by repeat (first | exact brefl _ | assumption | refine balloc ?_ _ | refine bdrew ?_ _ | refine bdrew1 ?_ | refine bthen ?_ (by assumption) | refine Below.trans ?_ (by assumption) | (refine bset ?_ (by first | (simp; done) | (simp; omega)) _))))
  have hz1 := hb1.size
  simp only [World.size_alloc] at hz1
  have HG := Lib.hid hG
  obtain ⟨hm1, hmg, hbl, _⟩ := good_met hG
  have hl1 : w.heap.size < w1.heap.size := by omega
  have hne1 : ¬ w.heap.size = w1.heap.size := by omega
  clear hG hb1
  unfold faceV
  go_wp2_with fail
  obtain ⟨W, hW⟩ : ∃ W, W = ((w1.alloc (Obj.cells #[.int .i64 (g : Nat), .int .i64 (e : Nat), .int .i64 (m : Nat)] 29)).alloc (Obj.cells #[.int .i64 (g : Nat), .int .i64 (e : Nat), .int .i64 (m : Nat), .slice none 0 0, .slice none 0 0] 59)).alloc (Obj.cells #[.pointer (some ⟨w1.heap.size + 1, 0, none⟩)] 40) := ⟨_, rfl⟩
  have bW : Below w1.heap.size w1 W := by rw [hW]; exact (by repeat (first | exact brefl _ | assumption | refine balloc ?_ _ | refine bdrew ?_ _ | refine bdrew1 ?_ | refine bthen ?_ (by assumption) | refine Below.trans ?_ (by assumption) | (refine bset ?_ (by first | (simp; done) | (simp; omega)) _)))
  have zW : W.heap.size = w1.heap.size + 3 := by rw [hW]; simp
  have hgw : W.heap[w1.heap.size + 1]? = some (.cells (widV g e m (.slice none 0 0) (.slice none 0 0)) 59 (0, 0)) := by rw [hW, heap_push, if_neg (by simp), heap_push, if_pos (by simp)]; rfl
  have hg6 : W.heap[w1.heap.size + 1 + 1]? = some (.cells #[.pointer (some ⟨w1.heap.size + 1, 0, none⟩)] 40 (0, 0)) := by rw [hW, heap_push, if_pos (by simp)]
  have c6 := cell_of_heap hg6 0
  simp only [List.getElem?_toArray, List.getElem?_cons_zero] at c6
  have hne : ∀ p, a = some p → p.block ≠ w1.heap.size + 1 := by
    intro p hp
    obtain ⟨b, o, ha, hlb, _⟩ := HH.out.get (by rw [bytesV_length]; omega)
    rw [hp] at ha
    cases ha
    show b ≠ _
    omega
  have HT := Lib.hid (try_any 26 #[.pointer (some ⟨w1.heap.size + 1 + 1, 0, none⟩), .pointer (some ⟨w.heap.size, 0, none⟩)] W (fun ok w' => WRead1R W (w1.heap.size + 1) g e m bs ok w' ∧ Below w.heap.size W w') (enter_wread1 _)
    ((wread1_any w.heap.size (w1.heap.size + 1) _ _ a n c g e m bs W ((HH.out.below HB1.out).below bW) HL.out hn hc hgw hmg hg hne (by omega) c6 ((bW.cell (p := ⟨w.heap.size, 0, none⟩) hl1).trans c1)).mono fun r w' h => by
      rcases h with ⟨⟨h1, h2⟩ | ⟨h1, h2⟩, h3⟩
      · exact .inl ⟨h1, h2, h3⟩
      · exact .inr ⟨h1, h2, h3⟩))
  have HG6 := Lib.hid hg6
  have HBW := Lib.hid (HB1.out.trans (bW.mono (by omega)))
  rw [← hW]
  clear hW bW hgw hg6 c6 hne c1
  refine HT.out.mono ?_
  clear HT
  rintro r w2 ⟨ok, rfl, (⟨rfl, i, hi, hd, hs⟩ | ⟨rfl, hno, hs⟩), hb2⟩
  · have q6 := cell_of_heap ((hs.block (w1.heap.size + 1 + 1) (by omega) (by simp)).trans HG6.out) 0
    simp only [List.getElem?_toArray, List.getElem?_cons_zero] at q6
    have HD := Lib.hid (hd.mono (show w.heap.size ≤ W.heap.size by omega))
    have HI := Lib.hid hi
    have HB2 := Lib.hid (HBW.out.trans hb2)
    clear hi hd hs hb2
    go_wp2_with fail
    go_ret2
    exact ⟨.inl ⟨g, e, m, i, w1.heap.size + 1, HG.out, hg, HI.out, rfl, HD.out, by omega⟩, HB2.out⟩
  · have HNO := Lib.hid (show ∀ g' e' m' i, Good bs g' e' m' → ¬ hmtxOk bs g' m' i from fun g' e' m' i hG' => by
      obtain ⟨rfl, rfl, rfl⟩ := good_one HG.out hG'
      exact hno i)
    have HB2 := Lib.hid (HBW.out.trans hb2)
    clear hno hs hb2
    go_wp2_with fail
    go_ret2
    exact ⟨.inr ⟨HNO.out, rfl⟩, HB2.out⟩
end Go.Proofs.Ythacabmnnpibkaa
