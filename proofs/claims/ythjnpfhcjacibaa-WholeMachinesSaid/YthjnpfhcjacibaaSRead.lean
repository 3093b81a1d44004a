
/- The contract of seek.Read. Conditions: as many bytes as the slice says; all numbers within 64 bits. -/
import Derived.Test.YthjnpfhcjacibaaSTake
import Derived.Test.YthjnpfhcjacibaaTry
import Derived.Test.YthjnpfhcjacibaaKeptE
namespace Go.Proofs.Ythjnpfhcjacibaa
open Go.RowKit

theorem owns_set_ty {w : World} {b e s n g cap o : Nat} {xs : List Value} (h : w.ownsRow b e s (.slice (some ⟨g, 0, none⟩) n cap) n xs) {b2 e2 s2 n2 : Nat} {v2 : Value} {xs2 : List Value} (h2 : w.ownsRow b2 e2 s2 v2 n2 xs2) (he : e ≠ e2) (u : Value) : (w.setCell ⟨g, o, none⟩ u).ownsRow b2 e2 s2 v2 n2 xs2 := by
  rcases h.2 with ⟨hv, _⟩ | ⟨g', cap', cur, hv, _, hh, _⟩
  · cases hv
  · injection hv with h1
    injection h1 with h1
    injection h1 with h1 _ _
    subst h1
    exact set_owns u h2 (own_neE h2 hh he)
theorem stake_ok (a : Option Addr) (n c : Nat) (bs : List UInt8) (j need keys : Nat) (w : World) (h : Has w a (bytesV bs)) (hl : bs.length = n) (hn : n ≤ c) (hc : c ≤ maxLen)
    (h2 : 2 ≤ need) (hn63 : need ≤ 9223372036854775807) (h1 : 1 ≤ keys) (hkn : 2 * keys ≤ need) (hok : skOk bs j need) :
    Calls Try.prog 30 #[.agg #[.slice a n c], .int .i64 (j : Nat), .int .i64 (need : Nat), .int .i64 (keys : Nat)] w fun e w' => ∃ g, e = .returned (.slice (some ⟨g, 0, none⟩) (skM bs j keys) (skM bs j keys)) ∧ w'.ownsRow w.heap.size 43 1 (.slice (some ⟨g, 0, none⟩) (skM bs j keys) (skM bs j keys)) (skM bs j keys) (rowsV a c j (skS bs j) (skM bs j keys)) ∧ Below w.heap.size w w' := by
  have := hok.head
  have hm : c ≤ 9223372036854775807 := hc
  refine (stake_any a n c bs j need keys w h hl hn hc (by omega) h2 hn63 h1 hkn).mono ?_
  rintro e w' ⟨(⟨i, g, hi, _, he, ho⟩ | ⟨hno, _⟩), hb⟩
  · obtain rfl : j = i := by omega
    exact ⟨g, he, ho, hb⟩
  · exact absurd hok (hno j rfl)
theorem stake_bad (a : Option Addr) (n c : Nat) (bs : List UInt8) (k : Int) (need keys : Nat) (w : World) (h : Has w a (bytesV bs)) (hl : bs.length = n) (hn : n ≤ c) (hc : c ≤ maxLen) (hk : -9223372036854775808 ≤ k ∧ k ≤ 9223372036854775807)
    (h2 : 2 ≤ need) (hn63 : need ≤ 9223372036854775807) (h1 : 1 ≤ keys) (hkn : 2 * keys ≤ need) (hno : ∀ j : Nat, k = (j : Nat) → ¬ skOk bs j need) :
    Calls Try.prog 30 #[.agg #[.slice a n c], .int .i64 k, .int .i64 (need : Nat), .int .i64 (keys : Nat)] w fun e w' => e = .panicked thrown ∧ Below w.heap.size w w' := by
  refine (stake_any a n c bs k need keys w h hl hn hc hk h2 hn63 h1 hkn).mono ?_
  rintro e w' ⟨(⟨i, g, hi, hok, _, _⟩ | ⟨_, he⟩), hb⟩
  · exact absurd hok (hno i hi)
  · exact ⟨he, hb⟩
theorem stake_len {bs : List UInt8} {j need keys : Nat} (h : skOk bs j need) : skM bs j keys ≤ 65535 ∧ skS bs j ≤ 65535 ∧ ∀ i, i < skM bs j keys → j + 10 + i * skS bs j + skS bs j ≤ bs.length := by
  have h1 := num2_lt bs (j + 2)
  have h2 := num2_lt bs j
  have hM : skM bs j keys ≤ skN bs j := by unfold skM; split <;> omega
  refine ⟨by unfold skN at hM; omega, by unfold skS; omega, fun i hi => ?_⟩
  have h3 := h.rows
  have : i * skS bs j + skS bs j ≤ skN bs j * skS bs j := by rw [← Nat.succ_mul]; exact Nat.mul_le_mul_right _ (by omega)
  omega
theorem rowsV_get (a : Option Addr) (c k S M i : Nat) (h : i < M) : (rowsV a c k S M)[i]? = some (rowV a c (k + 10 + i * S) S) := by
  simp [rowsV, List.getElem?_map, List.getElem?_range h]

def Read1R (B : Nat) (w : World) (g4 : Nat) (a : Option Addr) (c : Nat) (bs : List UInt8) (k : Int) (need keys : Nat) (ok : Bool) (w' : World) : Prop :=
  (ok = true ∧ ∃ j g : Nat, k = (j : Nat) ∧ skOk bs j need ∧ w'.heap[g4]? = some (.cells #[.slice (some ⟨g, 0, none⟩) (skM bs j keys) (skM bs j keys)] 71 (0, 0)) ∧ w'.ownsRow w.heap.size 43 1 (.slice (some ⟨g, 0, none⟩) (skM bs j keys) (skM bs j keys)) (skM bs j keys) (rowsV a c j (skS bs j) (skM bs j keys)) ∧ Below B w w' ∧ w.heap.size ≤ w'.heap.size) ∨
  (ok = false ∧ (∀ j : Nat, k = (j : Nat) → ¬ skOk bs j need) ∧ Below w.heap.size w w')
def badArgs (need keys : Int) : Prop := need < 2 ∨ keys < 1 ∨ need / 2 < keys
/-- The rows' bytes, each as new memory. -/
def RowsOwn (B : Nat) (bs : List UInt8) (j S : Nat) (vs : List Value) (w : World) : Prop :=
  ∀ i v, vs[i]? = some v → ∃ a' c', v = .slice a' S c' ∧ w.ownsRow B 5 1 (.slice a' S c') S (bytesV (rowB bs (j + 10 + i * S) S)) ∧ S ≤ c' ∧ c' ≤ maxLen
def SReadIs (bs : List UInt8) (k need keys : Int) (w : World) (e : Ending) (w' : World) : Prop :=
  ((badArgs need keys ∧ e = .returned (.tuple #[.slice none 0 0, .int .i64 1])) ∨
   (¬ badArgs need keys ∧ (∀ j : Nat, k = (j : Nat) → ¬ skOk bs j need.toNat) ∧ e = .returned (.tuple #[.slice none 0 0, .int .i64 2])) ∨
   (¬ badArgs need keys ∧ ∃ j g : Nat, ∃ vs : List Value, k = (j : Nat) ∧ skOk bs j need.toNat ∧ e = .returned (.tuple #[.slice (some ⟨g, 0, none⟩) (skM bs j keys.toNat) (skM bs j keys.toNat), .int .i64 0]) ∧
     w'.ownsRow w.heap.size 22 1 (.slice (some ⟨g, 0, none⟩) (skM bs j keys.toNat) (skM bs j keys.toNat)) (skM bs j keys.toNat) vs ∧ RowsOwn w.heap.size bs j (skS bs j) vs w')) ∧ Below w.heap.size w w'

theorem bytesS_info : (Try.prog.info? 22).map (fun i => (i.zero, i.size, i.bytes)) = some (some (.slice none 0 0), 1, 24) := by kernel_rfl
theorem made_slices (n : Nat) : (madeCells (Value.slice none 0 0).cells (n * 1)).toList = zerosV n := by
  apply List.ext_getElem?
  intro j
  simp only [madeCells, Value.cells, zerosV]
  by_cases h : j < n
  · simp [h, Nat.mod_one]
  · simp [h]
theorem RowsOwn.below {B : Nat} {bs : List UInt8} {j S : Nat} {vs : List Value} {w w' : World} (h : RowsOwn B bs j S vs w) (hb : Below w.heap.size w w') : RowsOwn B bs j S vs w' := fun i v hv => by
  obtain ⟨a', c', rfl, h1, h2, h3⟩ := h i v hv
  exact ⟨a', c', rfl, owns_below h1 hb (Nat.le_refl _), h2, h3⟩
def SRdRel (w : World) (bs : List UInt8) (a : Option Addr) (c j S M go g G : Nat) (i : Value) (wr : World) : Prop :=
  ∃ (k : Nat) (vs : List Value), k ≤ M ∧ i = .int .i64 (k : Nat) ∧ vs.length = k ∧ wr.ownsRow w.heap.size 22 1 (.slice (some ⟨go, 0, none⟩) M M) M (vs ++ zerosV (M - k)) ∧ RowsOwn w.heap.size bs j S vs wr ∧
    wr.heap[G]? = some (.cells #[.slice (some ⟨g, 0, none⟩) M M] 71 (0, 0)) ∧ wr.ownsRow w.heap.size 43 1 (.slice (some ⟨g, 0, none⟩) M M) M (rowsV a c j S M) ∧ Below w.heap.size w wr
theorem srd_step {w wr w' : World} {bs : List UInt8} {a a' : Option Addr} {c c' j S M go g G k : Nat} {vs : List Value} {i : Value} (hlt : k < M) (hi : i = .int .i64 ((k + 1 : Nat) : Int)) (hl : vs.length = k) (hO : wr.ownsRow w.heap.size 22 1 (.slice (some ⟨go, 0, none⟩) M M) M (vs ++ zerosV (M - k)))
    (hR : RowsOwn w.heap.size bs j S vs wr) (hG : wr.heap[G]? = some (.cells #[.slice (some ⟨g, 0, none⟩) M M] 71 (0, 0))) (hV : wr.ownsRow w.heap.size 43 1 (.slice (some ⟨g, 0, none⟩) M M) M (rowsV a c j S M)) (hb : Below w.heap.size w wr)
    (hb' : Below wr.heap.size wr w') (hn : w'.ownsRow wr.heap.size 5 1 (.slice a' S c') S (bytesV (rowB bs (j + 10 + k * S) S))) (h1 : S ≤ c') (h2 : c' ≤ maxLen) :
    SRdRel w bs a c j S M go g G i (w'.setCell ⟨go, k, none⟩ (.slice a' S c')) := by
  have hO' := owns_below hO hb' (Nat.le_refl _)
  have hgo : w.heap.size ≤ go := (hO.lt _ rfl).1
  have hGl := (Array.getElem?_eq_some_iff.1 hG).1
  refine ⟨k + 1, vs ++ [.slice a' S c'], hlt, hi, by simp [hl], ?_, ?_, ?_, ?_, bset (hb.trans (hb'.mono hb.size)) hgo _⟩
  · refine owns_eq (hO'.stored k (.slice a' S c')).1 ?_
    obtain ⟨m, hm⟩ : ∃ m, M - k = m + 1 := ⟨M - k - 1, by omega⟩
    rw [hm, zerosV_succ, List.set_append_right _ _ (by omega), hl, Nat.sub_self, List.set_cons_zero, show M - (k + 1) = m by omega]
    simp
  · intro i v hv
    rcases Nat.lt_or_ge i k with g | g
    · rw [List.getElem?_append_left (by omega)] at hv
      obtain ⟨a2, c2, rfl, k1, k2, k3⟩ := hR.below hb' i v hv
      exact ⟨a2, c2, rfl, owns_set_ty hO' k1 (by decide) _, k2, k3⟩
    · rw [List.getElem?_append_right (by omega)] at hv
      have : i = k := by
        rcases Nat.lt_or_ge k i with g2 | g2
        · rw [List.getElem?_eq_none (by simp; omega)] at hv; cases hv
        · omega
      subst this
      rw [hl, Nat.sub_self] at hv
      cases hv
      exact ⟨a', c', rfl, owns_mono (owns_set_ty hO' hn (by decide) _) hb.size, h1, h2⟩
  · rw [set_heap_other _ (by
      intro hE
      subst hE
      rcases hO.2 with ⟨hv, _⟩ | ⟨g', _, _, hv, _, hh, _⟩
      · cases hv
      · injection hv with e1 _ _
        injection e1 with e1
        injection e1 with e1 _ _
        subst e1
        rw [hG] at hh
        injection hh with hh
        injection hh with _ h2 _
        exact absurd h2 (by decide))]
    exact (hb'.block G hGl).trans hG
  · exact owns_set_ty hO' (owns_below hV hb' (Nat.le_refl _)) (by decide) _

end Go.Proofs.Ythjnpfhcjacibaa
