
/- The contract of lookup.Read. Conditions: as many bytes as the slice says; all numbers within 64 bits. -/
import Derived.Test.YthjnpfhcjacibaaLTake4
import Derived.Test.YthjnpfhcjacibaaTry
namespace Go.Proofs.Ythjnpfhcjacibaa
open Go.RowKit Go.Lib

theorem TabIs.setOther {B g fmt g3 o : Nat} {ps : List PartL} {ns : List Nat} {w : World} (h : TabIs B g fmt ps ns w) {cs : Array Value} {t : Nat} {fz : Nat × Nat} (hw : w.heap[g3]? = some (.cells cs t fz)) (h1 : t ≠ 66) (h2 : t ≠ 74) (h3 : t ≠ 64) (v : Value) : TabIs B g fmt ps ns (w.setCell ⟨g3, o, none⟩ v) := by
  obtain ⟨ap, cp, an, cn, e0, e1, e2⟩ := h.is
  have hne : g ≠ g3 := by
    rintro rfl
    rw [e0] at hw
    injection hw with hw
    injection hw with _ hw _
    exact h3 hw.symm
  exact ⟨ap, cp, an, cn, (set_heap_other v hne).trans e0, set_owns v e1 (own_neE e1 hw h1), set_owns v e2 (own_neE e2 hw h2)⟩
def LRead1R (B : Nat) (w : World) (g3 : Nat) (bs : List UInt8) (glyphs size : Nat) (ok : Bool) (w' : World) : Prop :=
  (ok = true ∧ ∃ rs g, LkOk bs glyphs size rs ∧ w'.heap[g3]? = some (.cells #[.pointer (some ⟨g, 0, none⟩)] 46 (0, 0)) ∧ TabIs w.heap.size g (num bs 0 2) (tabR bs rs).1 (tabR bs rs).2 w' ∧ Below B w w' ∧ w.heap.size ≤ w'.heap.size ∧ ∀ k, k < w.heap.size → k ≠ g3 → w'.heap[k]? = w.heap[k]?) ∨
  (ok = false ∧ (∀ rs, ¬ LkOk bs glyphs size rs) ∧ Below w.heap.size w w')
theorem take_ok (a : Option Addr) (n c : Nat) (bs : List UInt8) (glyphs size : Nat) (rs : List RP) (w : World) (hh : Has w a (bytesV bs)) (hbl : bs.length = n) (hnc : n ≤ c) (hc : c ≤ maxLen) (hg1 : 1 ≤ glyphs) (hg2 : glyphs ≤ 65535) (hS : size = 2 ∨ size = 4) (hok : LkOk bs glyphs size rs) :
    Calls Try.prog 20 #[.agg #[.slice a n c], .int .i64 (glyphs : Nat), .int .i64 (size : Nat)] w fun e w' => ∃ g, e = .returned (.pointer (some ⟨g, 0, none⟩)) ∧ TabIs w.heap.size g (num bs 0 2) (tabR bs rs).1 (tabR bs rs).2 w' ∧ Below w.heap.size w w' := by
  refine (take_lk a n c bs glyphs size _ _ rfl rfl w hh hbl hnc hc hg1 hg2 hS).mono ?_
  rintro e w' ⟨(⟨rs', g, hr, he, ht⟩ | ⟨hno, _⟩), hb⟩
  · obtain rfl := hr.det hok
    exact ⟨g, he, ht, hb⟩
  · exact absurd hok (hno rs)
theorem take_bad (a : Option Addr) (n c : Nat) (bs : List UInt8) (glyphs size : Nat) (w : World) (hh : Has w a (bytesV bs)) (hbl : bs.length = n) (hnc : n ≤ c) (hc : c ≤ maxLen) (hg1 : 1 ≤ glyphs) (hg2 : glyphs ≤ 65535) (hS : size = 2 ∨ size = 4) (hno : ∀ rs, ¬ LkOk bs glyphs size rs) :
    Calls Try.prog 20 #[.agg #[.slice a n c], .int .i64 (glyphs : Nat), .int .i64 (size : Nat)] w fun e w' => e = .panicked thrown ∧ Below w.heap.size w w' := by
  refine (take_lk a n c bs glyphs size _ _ rfl rfl w hh hbl hnc hc hg1 hg2 hS).mono ?_
  rintro e w' ⟨(⟨rs', g, hr, _, _⟩ | ⟨_, he⟩), hb⟩
  · exact absurd hr (hno rs')
  · exact ⟨he, hb⟩
theorem TabIs.ge {B g fmt : Nat} {ps : List PartL} {ns : List Nat} {w w' : World} {x : Value} {t : Nat} (h : TabIs B g fmt ps ns w') {g3 : Nat} (h3 : w'.heap[g3]? = some (.cells #[x] t (0, 0))) (ht : t ≠ 64) : g ≠ g3 := by
  rintro rfl
  obtain ⟨_, _, _, _, e0, _⟩ := h.is
  rw [e0] at h3
  injection h3 with h3
  injection h3 with _ h3 _
  exact ht h3.symm
def badLk (zg zs : Int) : Prop := zg < 1 ∨ 65535 < zg ∨ (zs ≠ 2 ∧ zs ≠ 4)
def LReadIs (bs : List UInt8) (zg zs : Int) (w : World) (e : Ending) (w' : World) : Prop :=
  ((badLk zg zs ∧ e = .returned (.tuple #[.pointer none, .int .i64 1])) ∨
   (¬ badLk zg zs ∧ (∀ rs, ¬ LkOk bs zg.toNat zs.toNat rs) ∧ e = .returned (.tuple #[.pointer none, .int .i64 2])) ∨
   (¬ badLk zg zs ∧ ∃ rs g, LkOk bs zg.toNat zs.toNat rs ∧ e = .returned (.tuple #[.pointer (some ⟨g, 0, none⟩), .int .i64 0]) ∧ TabIs w.heap.size g (num bs 0 2) (tabR bs rs).1 (tabR bs rs).2 w')) ∧ Below w.heap.size w w'
end Go.Proofs.Ythjnpfhcjacibaa
