
/- What a lookup is, by its bytes: parts, and the table that they make. Conditions: as the lemmas say. -/
import Derived.Test.YthjnpfhcjacibaaLTrim
import Derived.Test.YthjnpfhcjacibaaLGetT
import Derived.Test.YthjnpfhcjacibaaSTake
namespace Go.Proofs.Ythjnpfhcjacibaa
open Go.RowKit Go.Lib

/-- A part as the bytes tell it: its first and last glyph, where its numbers stand, how many bytes each has, whether each glyph has its own. -/
structure RP where
  first : Nat
  last : Nat
  at_ : Nat
  size : Nat
  own : Bool
def numsR (bs : List UInt8) (r : RP) : List Nat := if r.own = true then numsA (bs.drop r.at_) r.size (r.last - r.first + 1) else [num bs r.at_ r.size]
def stepR (bs : List UInt8) (s : List PartL × List Nat) (r : RP) : List PartL × List Nat :=
  (s.1 ++ [⟨r.first, r.last, s.2.length, if r.own = true then 1 else 0⟩], s.2 ++ numsR bs r)
def tabR (bs : List UInt8) (rs : List RP) : List PartL × List Nat := rs.foldl (stepR bs) ([], [])
theorem tabR_snoc (bs : List UInt8) (rs : List RP) (r : RP) : tabR bs (rs ++ [r]) = stepR bs (tabR bs rs) r := by simp [tabR, List.foldl_append]
theorem tabR_nil (bs : List UInt8) : tabR bs [] = ([], []) := rfl
def fitR (bs : List UInt8) (ps : List PartL) (r : RP) : Prop := CanAdd ps (r.first : Nat) (r.last : Nat) ∧ (r.own = true → r.at_ + (r.last - r.first + 1) * r.size ≤ bs.length)
def okR (bs : List UInt8) (rs : List RP) : Prop := ∀ i r, rs[i]? = some r → fitR bs (tabR bs (rs.take i)).1 r
def rows2 (bs : List UInt8) (S M : Nat) : List RP := (List.range M).map fun i => ⟨num bs (12 + i * skS bs 2 + 2) 2, num bs (12 + i * skS bs 2) 2, 12 + i * skS bs 2 + 4, S, false⟩
def rows4 (bs : List UInt8) (S M : Nat) : List RP := (List.range M).map fun i => ⟨num bs (12 + i * skS bs 2 + 2) 2, num bs (12 + i * skS bs 2) 2, num bs (12 + i * skS bs 2 + 4) 2, S, true⟩
def rows6 (bs : List UInt8) (S M : Nat) : List RP := (List.range M).map fun i => ⟨num bs (12 + i * skS bs 2) 2, num bs (12 + i * skS bs 2) 2, 12 + i * skS bs 2 + 2, S, false⟩
def rowsT (f m at_ S : Nat) : List RP := if m = 0 then [] else [⟨f, f + m - 1, at_, S, true⟩]
inductive LkRows (bs : List UInt8) (glyphs size : Nat) : List RP → Prop
  | all (h : 2 ≤ bs.length) (h0 : num bs 0 2 = 0) : LkRows bs glyphs size [⟨0, glyphs - 1, 2, size, true⟩]
  | two (h : 2 ≤ bs.length) (h0 : num bs 0 2 = 2) (h1 : skOk bs 2 (4 + size)) : LkRows bs glyphs size (rows2 bs size (skM bs 2 2))
  | four (h : 2 ≤ bs.length) (h0 : num bs 0 2 = 4) (h1 : skOk bs 2 6) : LkRows bs glyphs size (rows4 bs size (skM bs 2 2))
  | six (h : 2 ≤ bs.length) (h0 : num bs 0 2 = 6) (h1 : skOk bs 2 (2 + size)) : LkRows bs glyphs size (rows6 bs size (skM bs 2 1))
  | eight (h : 6 ≤ bs.length) (h0 : num bs 0 2 = 8) (h1 : num bs 2 2 + num bs 4 2 ≤ 65536) : LkRows bs glyphs size (rowsT (num bs 2 2) (num bs 4 2) 6 size)
  | ten (h : 8 ≤ bs.length) (h0 : num bs 0 2 = 10) (hu : num bs 2 2 = 1 ∨ num bs 2 2 = 2 ∨ num bs 2 2 = 4) (h1 : num bs 4 2 + num bs 6 2 ≤ 65536) : LkRows bs glyphs size (rowsT (num bs 4 2) (num bs 6 2) 8 (num bs 2 2))
structure LkOk (bs : List UInt8) (glyphs size : Nat) (rs : List RP) : Prop where
  rows : LkRows bs glyphs size rs
  ok : okR bs rs
theorem LkRows.det {bs : List UInt8} {glyphs size : Nat} {r1 r2 : List RP} (h1 : LkRows bs glyphs size r1) (h2 : LkRows bs glyphs size r2) : r1 = r2 := by
  cases h1 <;> cases h2 <;> first | rfl | omega
theorem LkOk.det {bs : List UInt8} {glyphs size : Nat} {r1 r2 : List RP} (h1 : LkOk bs glyphs size r1) (h2 : LkOk bs glyphs size r2) : r1 = r2 := h1.rows.det h2.rows
theorem okR_take {bs : List UInt8} {rs : List RP} (h : okR bs rs) (k : Nat) : okR bs (rs.take k) := fun i r hi => by
  rw [List.getElem?_take] at hi
  split at hi
  · rename_i hlt
    rw [List.take_take, Nat.min_eq_left (by omega)]
    exact h i r hi
  · cases hi
theorem okR_snoc {bs : List UInt8} {rs : List RP} {r : RP} (h : okR bs rs) (hf : fitR bs (tabR bs rs).1 r) : okR bs (rs ++ [r]) := fun i x hi => by
  rcases Nat.lt_trichotomy i rs.length with hl | hl | hl
  · rw [List.getElem?_append_left hl] at hi
    rw [List.take_append_of_le_length (by omega)]
    exact h i x hi
  · subst hl
    rw [List.getElem?_append_right (Nat.le_refl _), Nat.sub_self] at hi
    simp at hi
    subst hi
    rw [List.take_left']
    · exact hf
    · rfl
  · rw [List.getElem?_eq_none (by simp; omega)] at hi
    cases hi
theorem okR_take_succ {bs : List UInt8} {rs : List RP} {r : RP} {k : Nat} (h : okR bs (rs.take k)) (hr : rs[k]? = some r) (hf : fitR bs (tabR bs (rs.take k)).1 r) : okR bs (rs.take (k + 1)) := by
  rw [List.take_add_one, hr]
  exact okR_snoc h hf
theorem tabR_take_succ {bs : List UInt8} {rs : List RP} {r : RP} {k : Nat} (hr : rs[k]? = some r) : tabR bs (rs.take (k + 1)) = stepR bs (tabR bs (rs.take k)) r := by
  rw [List.take_add_one, hr]
  exact tabR_snoc _ _ _
theorem tabR_len (bs : List UInt8) (rs : List RP) : (tabR bs rs).1.length = rs.length := by
  suffices h : ∀ (rs : List RP) (s : List PartL × List Nat), (rs.foldl (stepR bs) s).1.length = s.1.length + rs.length by simpa [tabR] using h rs ([], [])
  intro rs
  induction rs with
  | nil => intro s; rfl
  | cons r rs ih => intro s; simp only [List.foldl_cons, ih, stepR, List.length_append, List.length_cons, List.length_nil]; omega
/-- What a table's parts and numbers keep, whatever is put behind them. -/
structure InvR (s : List PartL × List Nat) : Prop where
  rising : Rising s.1
  ok : ∀ p ∈ s.1, (p.step = 0 ∨ p.step = 1) ∧ p.at_ + p.step * (p.last - p.first) < s.2.length ∧ p.last ≤ 70000
  num : ∀ x ∈ s.2, x ≤ 4294967295
  few : ∀ p, s.1[s.1.length - 1]? = some p → s.2.length ≤ p.last + 1
  none : s.1 = [] → s.2 = []
theorem num_le4 (bs : List UInt8) (k s : Nat) (hs : s = 1 ∨ s = 2 ∨ s = 4) : num bs k s ≤ 4294967295 := by
  rcases hs with rfl | rfl | rfl
  · have := num1_le bs k; omega
  · have := num2_lt bs k; omega
  · exact num4_lt bs k
theorem InvR.step {bs : List UInt8} {s : List PartL × List Nat} {r : RP} (h : InvR s) (hf : fitR bs s.1 r) (hl : r.last ≤ 70000) (hs : r.size = 1 ∨ r.size = 2 ∨ r.size = 4) : InvR (stepR bs s r) := by
  obtain ⟨⟨h1, h2⟩, h3⟩ := hf
  have hnl : (numsR bs r).length ≤ r.last - r.first + 1 ∧ 1 ≤ (numsR bs r).length := by
    unfold numsR
    split
    · simp [numsA]
    · simp
  have hlast : s.2.length ≤ r.first := by
    by_cases he : s.1 = []
    · rw [h.none he]; simp
    · obtain ⟨p, hp⟩ : ∃ p, s.1[s.1.length - 1]? = some p := ⟨_, List.getElem?_eq_getElem (by have := List.length_pos_iff.2 he; omega)⟩
      have := h.few p hp
      have := h2 p hp
      omega
  refine ⟨⟨?_, ?_⟩, ?_, ?_, ?_, ?_⟩
  · refine List.pairwise_append.2 ⟨h.rising.1, List.pairwise_singleton _ _, fun p hp q hq => ?_⟩
    simp at hq
    subst hq
    obtain ⟨i, hi, rfl⟩ := List.getElem_of_mem hp
    have hx := List.getElem?_eq_getElem (show s.1.length - 1 < s.1.length by omega)
    have hm := h.rising.mono (show i ≤ s.1.length - 1 by omega) (List.getElem?_eq_getElem hi) hx
    have := h2 _ hx
    show s.1[i].last < r.first
    omega
  · intro p hp
    rcases List.mem_append.1 hp with hp | hp
    · exact h.rising.2 p hp
    · simp at hp
      subst hp
      show r.first ≤ r.last
      omega
  · intro p hp
    show _ ∧ _ < (s.2 ++ numsR bs r).length ∧ _
    rw [List.length_append]
    rcases List.mem_append.1 hp with hp | hp
    · obtain ⟨a1, a2, a3⟩ := h.ok p hp
      exact ⟨a1, by omega, a3⟩
    · simp at hp
      subst hp
      refine ⟨by show (if r.own = true then 1 else 0) = 0 ∨ (if r.own = true then 1 else 0) = 1; split <;> simp, ?_, hl⟩
      show s.2.length + (if r.own = true then 1 else 0) * (r.last - r.first) < _
      unfold numsR
      split
      · simp [numsA]
      · simp
  · intro x hx
    rcases List.mem_append.1 hx with hx | hx
    · exact h.num x hx
    · unfold numsR at hx
      split at hx
      · obtain ⟨i, _, rfl⟩ := List.mem_map.1 hx
        exact num_le4 _ _ _ hs
      · simp at hx
        subst hx
        exact num_le4 _ _ _ hs
  · intro p hp
    show (s.2 ++ numsR bs r).length ≤ _
    simp only [stepR, List.length_append, List.length_cons, List.length_nil] at hp
    rw [List.getElem?_append_right (by omega)] at hp
    simp at hp
    subst hp
    rw [List.length_append]
    show _ ≤ r.last + 1
    omega
  · intro he
    simp [stepR] at he
theorem InvR.nil : InvR ([], []) := ⟨⟨List.Pairwise.nil, fun p hp => by cases hp⟩, fun p hp => (by cases hp), fun x hx => (by cases hx), fun p hp => (by simp at hp), fun _ => rfl⟩
theorem invR_take (bs : List UInt8) (rs : List RP) (h : okR bs rs) (hr : ∀ r ∈ rs, r.last ≤ 70000 ∧ (r.size = 1 ∨ r.size = 2 ∨ r.size = 4)) : ∀ k, k ≤ rs.length → InvR (tabR bs (rs.take k))
  | 0, _ => by rw [List.take_zero]; exact InvR.nil
  | k + 1, hk => by
    have hx := List.getElem?_eq_getElem (show k < rs.length by omega)
    rw [tabR_take_succ hx]
    obtain ⟨r1, r2⟩ := hr _ (List.getElem_mem (show k < rs.length by omega))
    exact (invR_take bs rs h hr k (by omega)).step (h k _ hx) r1 r2
theorem invR (bs : List UInt8) (rs : List RP) (h : okR bs rs) (hr : ∀ r ∈ rs, r.last ≤ 70000 ∧ (r.size = 1 ∨ r.size = 2 ∨ r.size = 4)) : InvR (tabR bs rs) := by
  have := invR_take bs rs h hr rs.length (Nat.le_refl _)
  rwa [List.take_length] at this
theorem InvR.len {s : List PartL × List Nat} (h : InvR s) : s.2.length ≤ 70001 := by
  by_cases he : s.1 = []
  · rw [h.none he]; simp
  · have hx := List.getElem?_eq_getElem (show s.1.length - 1 < s.1.length by have := List.length_pos_iff.2 he; omega)
    have := h.few _ hx
    have := (h.ok _ (List.getElem_mem (show s.1.length - 1 < s.1.length by have := List.length_pos_iff.2 he; omega))).2.2
    omega
theorem InvR.fit {s : List PartL × List Nat} (h : InvR s) (hl : s.1.length ≤ 1000000) : FitL s.1 s.2 := ⟨h.rising, h.ok, h.num, hl, by have := h.len; omega⟩
theorem LkRows.each {bs : List UInt8} {glyphs size : Nat} {rs : List RP} (h : LkRows bs glyphs size rs) (hg : glyphs ≤ 65535) (hs : size = 2 ∨ size = 4) : rs.length ≤ 65535 ∧ ∀ r ∈ rs, r.last ≤ 70000 ∧ (r.size = 1 ∨ r.size = 2 ∨ r.size = 4) := by
  have hM : ∀ k, skM bs 2 k ≤ 65535 := fun k => by unfold skM skN; have := num2_lt bs (2 + 2); split <;> omega
  have hsz : size = 1 ∨ size = 2 ∨ size = 4 := by omega
  cases h with
  | all => exact ⟨by simp, fun r hr => by simp at hr; subst hr; exact ⟨by show glyphs - 1 ≤ 70000; omega, hsz⟩⟩
  | two => exact ⟨by simpa [rows2] using hM 2, fun r hr => by obtain ⟨i, _, rfl⟩ := List.mem_map.1 hr; exact ⟨Nat.le_trans (num2_lt _ _) (by omega), hsz⟩⟩
  | four => exact ⟨by simpa [rows4] using hM 2, fun r hr => by obtain ⟨i, _, rfl⟩ := List.mem_map.1 hr; exact ⟨Nat.le_trans (num2_lt _ _) (by omega), hsz⟩⟩
  | six => exact ⟨by simpa [rows6] using hM 1, fun r hr => by obtain ⟨i, _, rfl⟩ := List.mem_map.1 hr; exact ⟨Nat.le_trans (num2_lt _ _) (by omega), hsz⟩⟩
  | eight h h0 h1 =>
    unfold rowsT
    split
    · exact ⟨by simp, fun r hr => by cases hr⟩
    · exact ⟨by simp, fun r hr => by simp at hr; subst hr; exact ⟨by show num bs 2 2 + num bs 4 2 - 1 ≤ 70000; omega, hsz⟩⟩
  | ten h h0 hu h1 =>
    unfold rowsT
    split
    · exact ⟨by simp, fun r hr => by cases hr⟩
    · exact ⟨by simp, fun r hr => by simp at hr; subst hr; exact ⟨by show num bs 4 2 + num bs 6 2 - 1 ≤ 70000; omega, hu⟩⟩
theorem LkOk.fit {bs : List UInt8} {glyphs size : Nat} {rs : List RP} (h : LkOk bs glyphs size rs) (hg : glyphs ≤ 65535) (hs : size = 2 ∨ size = 4) : FitL (tabR bs rs).1 (tabR bs rs).2 := by
  obtain ⟨h1, h2⟩ := h.rows.each hg hs
  exact (invR bs rs h.ok h2).fit (by rw [tabR_len]; omega)
end Go.Proofs.Ythjnpfhcjacibaa
