
/- Pairs: what an argument of them is, and the contract of rising. Conditions: as many pairs as the slice says. The contract of rising. Conditions: as many pairs as the slice says, no more than 30. -/
import Derived.ChangeSame
import Derived.Test.YthepejljgolcoaaFrame
import Derived.Test.YthepejljgolcoaaLAlike
import Derived.Test.YthepejljgolcoaaLRefS
namespace Go.Proofs.Ythepejljgolcoaa
open Go.RowKit Go.Lib

def pairsV (zs : List (Nat × Nat)) : List Value := zs.flatMap fun z => [.int .u16 (z.1 : Nat), .int .u16 (z.2 : Nat)]
theorem pairsV_length (zs : List (Nat × Nat)) : (pairsV zs).length = zs.length * 2 := by
  induction zs with
  | nil => rfl
  | cons z zs ih => simp only [pairsV, List.flatMap_cons, List.length_append] at *; rw [ih]; simp; omega
theorem pairsV_get : ∀ (zs : List (Nat × Nat)) (i : Nat) (z : Nat × Nat), zs[i]? = some z → (pairsV zs)[i * 2]? = some (.int .u16 (z.1 : Nat)) ∧ (pairsV zs)[i * 2 + 1]? = some (.int .u16 (z.2 : Nat))
  | [], i, z, h => by simp at h
  | q :: zs, 0, z, h => by
    simp at h
    subst h
    simp [pairsV]
  | q :: zs, i + 1, z, h => by
    have := pairsV_get zs i z (by simpa using h)
    have e : ∀ k, (pairsV (q :: zs))[(i + 1) * 2 + k]? = (pairsV zs)[i * 2 + k]? := fun k => by
      show ([_, _] ++ pairsV zs)[(i + 1) * 2 + k]? = _
      rw [List.getElem?_append_right (by simp; omega)]
      congr 1
      simp
      omega
    have e0 := e 0
    simp only [Nat.add_zero] at e0
    rw [e0, e 1]
    exact this
theorem pairsV_snoc (zs : List (Nat × Nat)) (z : Nat × Nat) : pairsV zs ++ [.int .u16 (z.1 : Nat), .int .u16 (z.2 : Nat)] = pairsV (zs ++ [z]) := by simp [pairsV]
section
variable {H : Type} {enc : TypeId × Value → H}
theorem open_pairs {P : Program} {W : World} {base : Nat} {t e : TypeId} {f0 f1 : Field} {v : Value} {d : DataW H} {p : List MemPlace} (ht : P.underlying t = some (.slice e)) (he : P.underlying e = some (.struct #[f0, f1]))
    (h0 : P.underlying f0.type = some (.int .u16)) (h1 : P.underlying f1.type = some (.int .u16)) (o0 : f0.offset = 0) (o1 : f1.offset = 1) (c0 : P.cellsOf f0.type = 1) (c1 : P.cellsOf f1.type = 1) (ce : P.cellsOf e = 2)
    (hv : Value.okWide P W .any base t v) (h : DataW.Trod enc P W 0 (fun _ => true) true t v d p) :
    ∃ (a : Option Addr) (n c : Nat) (zs : List (Nat × Nat)), v = .slice a n c ∧ zs.length = n ∧ n ≤ c ∧ c ≤ maxLen ∧ (a = none → c = 0) ∧ Has W a (pairsV zs) ∧ ∀ z ∈ zs, z.1 ≤ 65535 ∧ z.2 ≤ 65535 := by
  obtain ⟨a, n, c, us, rfl, hl, hn, hc, hA, hh, hx⟩ := open_rows ht hv h
  have key : ∀ us : List (List Value), (∀ x ∈ us, x.length = P.cellsOf e ∧ ∃ m y, DataW.trod enc P W 0 (fun _ => true) true m e x = some y) → ∃ zs : List (Nat × Nat), zs.length = us.length ∧ us.flatten = pairsV zs ∧ ∀ z ∈ zs, z.1 ≤ 65535 ∧ z.2 ≤ 65535 := by
    intro us
    induction us with
    | nil => exact fun _ => ⟨[], rfl, rfl, fun z hz => by cases hz⟩
    | cons x us ih =>
      intro h
      obtain ⟨zs, q1, q2, q3⟩ := ih (fun y hy => h y (by simp [hy]))
      obtain ⟨hlx, m, y, hy⟩ := h x (by simp)
      obtain ⟨y0, y1, k, _, _, t0, t1⟩ := Go.ChangeShapes.trod_struct2 he hy
      rw [o0, c0] at t0
      rw [o1, c1] at t1
      obtain ⟨z0, e0, _, w0⟩ := DataW.trod_int h0 t0
      obtain ⟨z1, e1, _, w1⟩ := DataW.trod_int h1 t1
      obtain ⟨k0, rfl, b0⟩ := wf_u16 w0
      obtain ⟨k1, rfl, b1⟩ := wf_u16 w1
      rw [ce] at hlx
      have hxe : x = [.int .u16 (k0 : Nat), .int .u16 (k1 : Nat)] := by
        match x, hlx with
        | [x0, x1], _ =>
          simp at e0 e1
          rw [e0, e1]
      exact ⟨(k0, k1) :: zs, by simp [q1], by rw [List.flatten_cons, hxe, q2]; rfl, fun z hz => by
        rcases List.mem_cons.1 hz with rfl | hz
        · exact ⟨b0, b1⟩
        · exact q3 z hz⟩
  obtain ⟨zs, q1, q2, q3⟩ := key us hx
  exact ⟨a, n, c, zs, rfl, q1.trans hl, hn, hc, hA, q2 ▸ hh, q3⟩
end

/-- Pairs by rising glyphs, below 65535. -/
def Ris (R : List (Nat × Nat)) : Prop := R.Pairwise (fun x y => x.1 < y.1) ∧ ∀ z ∈ R, z.1 ≤ 65534 ∧ z.2 ≤ 65535
theorem ris_len {R : List (Nat × Nat)} {k : Nat} (h : Ris R) (hk : ∀ z ∈ R, z.1 < k) : R.length ≤ k := by
  suffices hs : ∀ (R : List (Nat × Nat)) (a : Nat), R.Pairwise (fun x y => x.1 < y.1) → (∀ z ∈ R, a ≤ z.1 ∧ z.1 < k) → R.length ≤ k - a by
    have := hs R 0 h.1 (fun z hz => ⟨Nat.zero_le _, hk z hz⟩)
    omega
  intro R
  induction R with
  | nil => intro a _ _; simp
  | cons z R ih =>
    intro a hp hb
    rw [List.pairwise_cons] at hp
    obtain ⟨b1, b2⟩ := hb z (by simp)
    have := ih (z.1 + 1) hp.2 (fun y hy => ⟨hp.1 y hy, (hb y (by simp [hy])).2⟩)
    simp only [List.length_cons]
    omega
theorem ris_last {R : List (Nat × Nat)} (h : Ris R) {z : Nat × Nat} (hz : R[R.length - 1]? = some z) : ∀ y ∈ R, y.1 ≤ z.1 := by
  intro y hy
  obtain ⟨i, hi, rfl⟩ := List.getElem_of_mem hy
  obtain ⟨hj, rfl⟩ := List.getElem?_eq_some_iff.1 hz
  rcases Nat.lt_or_ge i (R.length - 1) with g | g
  · have := List.pairwise_iff_getElem.1 h.1 i (R.length - 1) hi hj g
    omega
  · have : i = R.length - 1 := by omega
    subst this
    exact Nat.le_refl _
theorem ris_snoc {R : List (Nat × Nat)} (h : Ris R) {z : Nat × Nat} (h1 : ∀ y ∈ R, y.1 < z.1) (h2 : z.1 ≤ 65534) (h3 : z.2 ≤ 65535) : Ris (R ++ [z]) := by
  refine ⟨List.pairwise_append.2 ⟨h.1, List.pairwise_singleton _ _, fun x hx y hy => ?_⟩, fun y hy => ?_⟩
  · simp at hy; subst hy; exact h1 x hx
  · rcases List.mem_append.1 hy with hy | hy
    · exact h.2 y hy
    · simp at hy; subst hy; exact ⟨h2, h3⟩
theorem pair_info : (Try.prog.info? 34).map (fun i => (i.zero, i.size, i.bytes)) = some (some (.agg #[.int .u16 0, .int .u16 0]), 2, 4) := by kernel_rfl
theorem len_sub : ∀ (R zs : List (Nat × Nat)), R.Pairwise (fun x y => x.1 < y.1) → (∀ z ∈ R, z ∈ zs) → R.length ≤ zs.length
  | [], zs, _, _ => Nat.zero_le _
  | y :: R, zs, hp, hm => by
    rw [List.pairwise_cons] at hp
    have hy := hm y (by simp)
    have := len_sub R (zs.erase y) hp.2 (fun z hz => (List.mem_erase_of_ne (fun he => by have := hp.1 z hz; rw [he] at this; omega)).2 (hm z (by simp [hz])))
    rw [List.length_erase_of_mem hy] at this
    have := List.length_pos_of_mem hy
    simp only [List.length_cons]
    omega
def RiseRel (zs : List (Nat × Nat)) (w : World) (k : Nat) (out : Value) (wr : World) : Prop :=
  ∃ (R : List (Nat × Nat)) (a' : Option Addr) (c' : Nat), out = .slice a' R.length c' ∧ wr.ownsRow w.heap.size 34 2 out R.length (pairsV R) ∧ R.length ≤ c' ∧ c' ≤ maxLen ∧ Ris R ∧ ((∀ z ∈ R, z.1 < k) ∧ ∀ z ∈ R, z ∈ zs) ∧ Below w.heap.size w wr
end Go.Proofs.Ythepejljgolcoaa
