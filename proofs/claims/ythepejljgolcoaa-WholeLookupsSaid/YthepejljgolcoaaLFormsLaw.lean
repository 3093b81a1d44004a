
/- Bytes of lookups of the forms 2, 4 and 8, and the tables that they are. Conditions: pairs by rising glyphs. Bytes of lookups of the forms 2, 4 and 8, and that they are lookups. Conditions: pairs by rising glyphs, no more than 30. The contract of Forms. Conditions: pairs by rising glyphs, no more than 30, and as many as the slice says. The walk of LookupForms. Conditions: as many pairs as the slice says; a number within 64 bits. -/
import Derived.Test.YthepejljgolcoaaLSixP
namespace Go.Proofs.Ythepejljgolcoaa
open Go.RowKit Go.Lib

/-- The table of pairs, one part each. -/
def tabS (st : Nat) (R : List (Nat × Nat)) : List PartL × List Nat := ((List.range R.length).map fun i => ⟨(R.getD i (0, 0)).1, (R.getD i (0, 0)).1, i, st⟩, R.map Prod.snd)
theorem tabS_zero (R : List (Nat × Nat)) : tabS 0 R = tabP R := rfl
/-- Parts that tell pairs one by one. -/
structure OneBy (bs : List UInt8) (own : Bool) (R : List (Nat × Nat)) (rs : List RP) : Prop where
  len : rs.length = R.length
  each : ∀ (i : Nat) (z : Nat × Nat), R[i]? = some z → ∃ r : RP, rs[i]? = some r ∧ r.first = z.1 ∧ r.last = z.1 ∧ r.size = 2 ∧ r.own = own ∧ num bs r.at_ 2 = z.2 ∧ (own = true → r.at_ + 2 ≤ bs.length)
theorem OneBy.nums {bs : List UInt8} {r : RP} {x v : Nat} (h1 : r.first = x) (h2 : r.last = x) (h3 : r.size = 2) (h5 : num bs r.at_ 2 = v) : numsR bs r = [v] := by
  unfold numsR
  split
  · rw [h1, h2, Nat.sub_self, h3]
    simp [numsA, num_dropS, h5]
  · rw [h3, h5]
theorem OneBy.tab {bs : List UInt8} {own : Bool} {R : List (Nat × Nat)} {rs : List RP} (h : OneBy bs own R rs) : tabR bs rs = tabS (if own = true then 1 else 0) R := by
  suffices hs : ∀ k, k ≤ R.length → tabR bs (rs.take k) = ((List.range k).map fun i => ⟨(R.getD i (0, 0)).1, (R.getD i (0, 0)).1, i, if own = true then 1 else 0⟩, (R.take k).map Prod.snd) by
    have := hs R.length (Nat.le_refl _)
    rwa [List.take_of_length_le (by rw [h.len]; exact Nat.le_refl _), List.take_length] at this
  intro k
  induction k with
  | zero => intro _; rfl
  | succ k ih =>
    intro hk
    have hz := List.getElem?_eq_getElem (show k < R.length by omega)
    obtain ⟨r, hr, r1, r2, r3, r4, r5, _⟩ := h.each k _ hz
    rw [tabR_take_succ hr, ih (by omega)]
    simp only [stepR, OneBy.nums r1 r2 r3 r5, List.length_map, List.length_take]
    rw [List.range_succ, List.map_append, List.take_add_one, hz, List.map_append, Nat.min_eq_left (by omega)]
    simp [List.getD_eq_getElem?_getD, hz, r1, r2, r4]
theorem OneBy.ok {bs : List UInt8} {own : Bool} {R : List (Nat × Nat)} {rs : List RP} (h : OneBy bs own R rs) (hR : Ris R) : okR bs rs := by
  have hall : ∀ r ∈ rs, r.size = 2 ∧ r.first ≤ r.last ∧ r.last - r.first + 1 = 1 ∧ (r.own = true → r.at_ + 2 ≤ bs.length) := fun r hr => by
    obtain ⟨i, hi, rfl⟩ := List.getElem_of_mem hr
    obtain ⟨r', hr', r1, r2, r3, r4, _, r6⟩ := h.each i _ (List.getElem?_eq_getElem (show i < R.length by rw [← h.len]; exact hi))
    rw [List.getElem?_eq_getElem hi] at hr'
    cases hr'
    exact ⟨r3, by omega, by omega, fun ho => r6 (by rw [← r4]; exact ho)⟩
  refine (okR_good _ _ (fun r hr => by rw [(hall r hr).1]; omega)).2 ⟨fun i hi r hr => ?_, fun r hr ho => ?_⟩
  · have hi' : i < R.length := by rw [← h.len]; exact hi
    obtain ⟨r', hr', r1, r2, _⟩ := h.each i _ (List.getElem?_eq_getElem hi')
    rw [hr] at hr'
    cases hr'
    refine ⟨by omega, fun q h0 hq => ?_⟩
    obtain ⟨q', hq', q1, q2, _⟩ := h.each (i - 1) _ (List.getElem?_eq_getElem (show i - 1 < R.length by omega))
    rw [hq] at hq'
    cases hq'
    have := List.pairwise_iff_getElem.1 hR.1 (i - 1) i (by omega) hi' (by omega)
    omega
  · obtain ⟨a1, a2, a3, a4⟩ := hall r hr
    refine (fitZ_iff _ _ (by omega) a2).2 ?_
    have := a4 ho
    rw [a1]
    omega
/-- What the table of pairs says of a glyph. -/
def getP (R : List (Nat × Nat)) (id : Int) : Nat × Bool := match R.find? (fun z => decide ((z.1 : Int) = id)) with
  | some z => (z.2, true)
  | none => (0, false)
theorem tabS_rising {st : Nat} {R : List (Nat × Nat)} (hR : Ris R) : Rising (tabS st R).1 := by
  have e : ∀ i (h : i < R.length), R.getD i (0, 0) = R[i] := fun i h => by simp [List.getD_eq_getElem?_getD, h]
  refine ⟨?_, fun p hp => ?_⟩
  · rw [List.pairwise_iff_getElem]
    intro i j hi hj hij
    simp only [tabS, List.length_map, List.length_range] at hi hj
    simp only [tabS, List.getElem_map, List.getElem_range]
    rw [e i hi, e j hj]
    exact List.pairwise_iff_getElem.1 hR.1 i j hi hj hij
  · obtain ⟨i, _, rfl⟩ := List.mem_map.1 hp
    exact Nat.le_refl _
theorem getL_tab {st : Nat} {R : List (Nat × Nat)} (hR : Ris R) (id : Int) : getL (tabS st R).1 (tabS st R).2 id = getP R id := by
  have e : ∀ i (h : i < R.length), R.getD i (0, 0) = R[i] := fun i h => by simp [List.getD_eq_getElem?_getD, h]
  unfold getP
  cases hf : R.find? (fun z => decide ((z.1 : Int) = id)) with
  | none =>
    refine getL_out fun p hp => ?_
    obtain ⟨i, hi, rfl⟩ := List.mem_map.1 hp
    have hi' : i < R.length := List.mem_range.1 hi
    have := List.find?_eq_none.1 hf R[i] (List.getElem_mem hi')
    simp only [decide_eq_true_eq] at this
    show ¬ (((R.getD i (0, 0)).1 : Int) ≤ id ∧ id ≤ ((R.getD i (0, 0)).1 : Int))
    rw [e i hi']
    omega
  | some z =>
    have hz := List.find?_some hf
    simp only [decide_eq_true_eq] at hz
    obtain ⟨i, hi, rfl⟩ := List.getElem_of_mem (List.mem_of_find?_eq_some hf)
    have hm : (⟨(R.getD i (0, 0)).1, (R.getD i (0, 0)).1, i, st⟩ : PartL) ∈ (tabS st R).1 := List.mem_map.2 ⟨i, List.mem_range.2 hi, rfl⟩
    have := getL_in (ns := (tabS st R).2) (tabS_rising hR) hm (by show ((R.getD i (0, 0)).1 : Int) ≤ id; rw [e i hi]; omega) (by show id ≤ ((R.getD i (0, 0)).1 : Int); rw [e i hi]; omega)
    rw [this]
    show ((R.map Prod.snd).getD (i + st * (id - ((R.getD i (0, 0)).1 : Int)).toNat) 0, true) = (R[i].2, true)
    rw [e i hi, ← hz, Int.sub_self]
    simp [List.getD_eq_getElem?_getD, hi]

def rowQ (z : Nat × Nat) : List UInt8 := beN 2 z.1 ++ beN 2 z.1 ++ beN 2 z.2
theorem rowQ_length (z : Nat × Nat) : (rowQ z).length = 6 := by simp [rowQ, beN_length]
def qs (f : Nat) (L : List (Nat × Nat)) (Z : List UInt8) : List UInt8 := headB f 6 L.length ++ L.flatMap rowQ ++ Z
theorem qs_length (f : Nat) (L : List (Nat × Nat)) (Z : List UInt8) : (qs f L Z).length = 12 + L.length * 6 + Z.length := by
  rw [qs, List.length_append, List.length_append, headB_length, flat_length _ 6 rowQ_length]
theorem qs_row (f : Nat) (L : List (Nat × Nat)) (Z : List UInt8) (i : Nat) (z : Nat × Nat) (hz : L[i]? = some z) (h1 : z.1 ≤ 65535) (h2 : z.2 ≤ 65535) : num (qs f L Z) (12 + i * 6) 2 = z.1 ∧ num (qs f L Z) (12 + i * 6 + 2) 2 = z.1 ∧ num (qs f L Z) (12 + i * 6 + 4) 2 = z.2 := by
  obtain ⟨Y, hY⟩ := flat_drop rowQ 6 rowQ_length L i z hz
  have hi := (List.getElem?_eq_some_iff.1 hz).1
  have key : ∀ k, k + 2 ≤ 6 → num (qs f L Z) (12 + i * 6 + k) 2 = num (rowQ z ++ Y) k 2 := fun k hk => by
    have e1 : num (qs f L Z) (12 + i * 6 + k) 2 = num (headB f 6 L.length ++ L.flatMap rowQ) (12 + i * 6 + k) 2 := by
      rw [qs]
      refine num_left _ _ _ _ ?_
      rw [List.length_append, headB_length, flat_length _ 6 rowQ_length]
      omega
    rw [e1, ← hY, num_dropS]
    have := num_right (headB f 6 L.length) (L.flatMap rowQ) (i * 6 + k) 2
    rw [headB_length] at this
    rw [← this, Nat.add_assoc]
  have l2 : ∀ z, (beN 2 z).length = 2 := fun z => beN_length 2 z
  have e : rowQ z ++ Y = beN 2 z.1 ++ (beN 2 z.1 ++ (beN 2 z.2 ++ Y)) := by simp [rowQ]
  refine ⟨?_, ?_, ?_⟩
  · have := key 0 (by omega)
    rw [Nat.add_zero] at this
    rw [this, e]
    exact num_beN2 _ _ h1
  · rw [key 2 (by omega), e]
    have := num_right (beN 2 z.1) (beN 2 z.1 ++ (beN 2 z.2 ++ Y)) 0 2
    rw [l2] at this
    rw [this]
    exact num_beN2 _ _ h1
  · rw [key 4 (by omega), e]
    have := num_right (beN 2 z.1) (beN 2 z.1 ++ (beN 2 z.2 ++ Y)) 2 2
    have h3 := num_right (beN 2 z.1) (beN 2 z.2 ++ Y) 0 2
    rw [l2] at this h3
    rw [this, h3]
    exact num_beN2 _ _ h2
theorem qs_head (f : Nat) (L : List (Nat × Nat)) (Z : List UInt8) (hf : f ≤ 65535) (hl : L.length ≤ 65535) (hL : ∀ z ∈ L, z.1 ≤ 65534 ∧ z.2 ≤ 65535) : num (qs f L Z) 0 2 = f ∧ skOk (qs f L Z) 2 6 ∧ skM (qs f L Z) 2 2 = L.length ∧ skS (qs f L Z) 2 = 6 := by
  obtain ⟨n0, n2, n4⟩ := headB_nums f 6 L.length (L.flatMap rowQ ++ Z) hf (by omega) hl
  rw [← List.append_assoc] at n0 n2 n4
  have hlen := qs_length f L Z
  have eS : skS (qs f L Z) 2 = 6 := n2
  have eN : skN (qs f L Z) 2 = L.length := n4
  refine ⟨n0, ⟨by omega, by rw [eS]; exact Nat.le_refl _, by rw [eN, eS, hlen]; omega⟩, ?_, eS⟩
  unfold skM skEnd
  rw [eN, eS]
  by_cases h0 : 0 < L.length
  · obtain ⟨z, hz⟩ : ∃ z, L[L.length - 1]? = some z := ⟨_, List.getElem?_eq_getElem (by omega)⟩
    have hz1 := hL z (List.mem_of_getElem? hz)
    have hr := (qs_row f L Z _ z hz (by omega) hz1.2).1
    have : allFF (rowB (qs f L Z) (2 + 10 + (L.length - 1) * 6) 6) 2 = false := by
      have h := num_row (qs f L Z) (12 + (L.length - 1) * 6) 6 0 2 (by omega)
      rw [Nat.add_zero, hr] at h
      simp only [allFF, show List.range 2 = [0, 1] from rfl, List.all_cons, List.all_nil, Bool.and_true, Nat.mul_zero]
      rw [show (2 + 10 + (L.length - 1) * 6) = 12 + (L.length - 1) * 6 from rfl, h]
      have : (z.1 == 65535) = false := by rw [beq_eq_false_iff_ne]; omega
      simp [this]
    rw [this]
    simp
  · simp [h0]
def two (R : List (Nat × Nat)) : List UInt8 := qs 2 R []
theorem two_one (R : List (Nat × Nat)) (hR : Ris R) (hl : R.length ≤ 65535) : OneBy (two R) false R (rows2 (two R) 2 R.length) := by
  obtain ⟨_, _, _, eS⟩ := qs_head 2 R [] (by omega) hl hR.2
  refine ⟨by simp [rows2], fun i z hz => ?_⟩
  have hi := (List.getElem?_eq_some_iff.1 hz).1
  have hz1 := hR.2 z (List.mem_of_getElem? hz)
  obtain ⟨a1, a2, a3⟩ := qs_row 2 R [] i z hz (by omega) hz1.2
  refine ⟨⟨num (two R) (12 + i * skS (two R) 2 + 2) 2, num (two R) (12 + i * skS (two R) 2) 2, 12 + i * skS (two R) 2 + 4, 2, false⟩, by simp [rows2, hi], ?_, ?_, rfl, rfl, ?_, fun h => by cases h⟩
  · show num (two R) (12 + i * skS (two R) 2 + 2) 2 = z.1
    unfold two; rw [eS]; exact a2
  · show num (two R) (12 + i * skS (two R) 2) 2 = z.1
    unfold two; rw [eS]; exact a1
  · show num (two R) (12 + i * skS (two R) 2 + 4) 2 = z.2
    unfold two; rw [eS]; exact a3
theorem two_ok (R : List (Nat × Nat)) (hR : Ris R) (hl : R.length ≤ 65535) (glyphs : Nat) : LkOk (two R) glyphs 2 (rows2 (two R) 2 R.length) := by
  obtain ⟨e0, hsk, hM, _⟩ := qs_head 2 R [] (by omega) hl hR.2
  have hrw := LkRows.two (glyphs := glyphs) (size := 2) (show 2 ≤ (two R).length by rw [two, qs_length]; omega) e0 hsk
  rw [show skM (two R) 2 2 = R.length from hM] at hrw
  exact ⟨hrw, (two_one R hR hl).ok hR⟩
def L4 (R : List (Nat × Nat)) : List (Nat × Nat) := R.mapIdx fun i z => (z.1, 12 + 6 * R.length + 2 * i)
def valB (z : Nat × Nat) : List UInt8 := beN 2 z.2
theorem valB_length (z : Nat × Nat) : (valB z).length = 2 := beN_length 2 _
def four (R : List (Nat × Nat)) : List UInt8 := qs 4 (L4 R) (R.flatMap valB)
theorem L4_length (R : List (Nat × Nat)) : (L4 R).length = R.length := by simp [L4]
theorem L4_get (R : List (Nat × Nat)) (i : Nat) (z : Nat × Nat) (h : R[i]? = some z) : (L4 R)[i]? = some (z.1, 12 + 6 * R.length + 2 * i) := by simp [L4, List.getElem?_mapIdx, h]
theorem L4_all (R : List (Nat × Nat)) (hR : Ris R) (hl : R.length ≤ 250) : ∀ z ∈ L4 R, z.1 ≤ 65534 ∧ z.2 ≤ 65535 := fun y hy => by
  obtain ⟨i, hi, rfl⟩ := List.getElem_of_mem hy
  rw [L4_length] at hi
  have hz := List.getElem?_eq_getElem hi
  have hg := L4_get R i _ hz
  rw [List.getElem?_eq_getElem (by rw [L4_length]; exact hi)] at hg
  injection hg with hg
  rw [hg]
  have := hR.2 _ (List.getElem_mem hi)
  exact ⟨this.1, by show 12 + 6 * R.length + 2 * i ≤ 65535; omega⟩
theorem four_one (R : List (Nat × Nat)) (hR : Ris R) (hl : R.length ≤ 250) : OneBy (four R) true R (rows4 (four R) 2 R.length) := by
  have hLA := L4_all R hR hl
  obtain ⟨_, _, _, eS⟩ := qs_head 4 (L4 R) (R.flatMap valB) (by omega) (by rw [L4_length]; omega) hLA
  refine ⟨by simp [rows4], fun i z hz => ?_⟩
  have hi := (List.getElem?_eq_some_iff.1 hz).1
  have hz1 := hR.2 z (List.mem_of_getElem? hz)
  obtain ⟨a1, a2, a3⟩ := qs_row 4 (L4 R) (R.flatMap valB) i _ (L4_get R i z hz) (by show z.1 ≤ 65535; omega) (by show 12 + 6 * R.length + 2 * i ≤ 65535; omega)
  simp only at a1 a2 a3
  have hlen : (four R).length = 12 + R.length * 6 + R.length * 2 := by rw [four, qs_length, L4_length, flat_length _ 2 valB_length]
  refine ⟨⟨num (four R) (12 + i * skS (four R) 2 + 2) 2, num (four R) (12 + i * skS (four R) 2) 2, num (four R) (12 + i * skS (four R) 2 + 4) 2, 2, true⟩, by simp [rows4, hi], ?_, ?_, rfl, rfl, ?_, fun _ => ?_⟩
  · show num (four R) (12 + i * skS (four R) 2 + 2) 2 = z.1
    unfold four; rw [eS]; exact a2
  · show num (four R) (12 + i * skS (four R) 2) 2 = z.1
    unfold four; rw [eS]; exact a1
  · show num (four R) (num (four R) (12 + i * skS (four R) 2 + 4) 2) 2 = z.2
    have e : num (four R) (12 + i * skS (four R) 2 + 4) 2 = 12 + 6 * R.length + 2 * i := by unfold four; rw [eS]; exact a3
    rw [e]
    obtain ⟨Y, hY⟩ := flat_drop valB 2 valB_length R i z hz
    have hx := num_right (headB 4 6 (L4 R).length ++ (L4 R).flatMap rowQ) (R.flatMap valB) (i * 2) 2
    rw [List.length_append, headB_length, flat_length _ 6 rowQ_length, L4_length] at hx
    unfold four qs
    rw [L4_length, show 12 + 6 * R.length + 2 * i = 12 + R.length * 6 + i * 2 by omega, hx, show num (R.flatMap valB) (i * 2) 2 = num ((R.flatMap valB).drop (i * 2)) 0 2 from (num_dropS _ _ 0 2).symm, hY]
    exact num_beN2 _ _ hz1.2
  · show num (four R) (12 + i * skS (four R) 2 + 4) 2 + 2 ≤ (four R).length
    have e : num (four R) (12 + i * skS (four R) 2 + 4) 2 = 12 + 6 * R.length + 2 * i := by unfold four; rw [eS]; exact a3
    omega
theorem four_ok (R : List (Nat × Nat)) (hR : Ris R) (hl : R.length ≤ 250) (glyphs : Nat) : LkOk (four R) glyphs 2 (rows4 (four R) 2 R.length) := by
  obtain ⟨e0, hsk, hM, _⟩ := qs_head 4 (L4 R) (R.flatMap valB) (by omega) (by rw [L4_length]; omega) (L4_all R hR hl)
  have hrw := LkRows.four (glyphs := glyphs) (size := 2) (show 2 ≤ (four R).length by rw [four, qs_length]; omega) e0 hsk
  rw [show skM (four R) 2 2 = R.length from hM.trans (L4_length R)] at hrw
  exact ⟨hrw, (four_one R hR hl).ok hR⟩
def eightH (f m : Nat) (Z : List UInt8) : List UInt8 := beN 2 8 ++ beN 2 f ++ beN 2 m ++ Z
theorem eightH_nums (f m : Nat) (Z : List UInt8) (hf : f ≤ 65535) (hm : m ≤ 65535) : num (eightH f m Z) 0 2 = 8 ∧ num (eightH f m Z) 2 2 = f ∧ num (eightH f m Z) 4 2 = m ∧ num (eightH f m Z) 6 2 = num Z 0 2 ∧ (eightH f m Z).length = 6 + Z.length := by
  have e : eightH f m Z = beN 2 8 ++ (beN 2 f ++ (beN 2 m ++ Z)) := by simp [eightH]
  have l2 : ∀ z, (beN 2 z).length = 2 := fun z => beN_length 2 z
  have r : ∀ x (Y : List UInt8) k, num (beN 2 x ++ Y) (2 + k) 2 = num Y k 2 := fun x Y k => by
    have := num_right (beN 2 x) Y k 2
    rwa [l2] at this
  refine ⟨by rw [e]; exact num_beN2 8 _ (by omega), ?_, ?_, ?_, ?_⟩
  · rw [e, r 8 _ 0]; exact num_beN2 _ _ hf
  · rw [e, r 8 _ 2, r f _ 0]; exact num_beN2 _ _ hm
  · rw [e, r 8 _ 4, r f _ 2, r m _ 0]
  · rw [e]; simp [beN_length]; omega
def eight (R : List (Nat × Nat)) : List UInt8 := match R with
  | [z] => eightH z.1 1 (beN 2 z.2)
  | _ => eightH 0 0 []
theorem eight_ok (R : List (Nat × Nat)) (hR : Ris R) (hl : R.length ≤ 1) (glyphs : Nat) : ∃ rs, LkOk (eight R) glyphs 2 rs ∧ OneBy (eight R) true R rs := by
  rcases R with _ | ⟨z, _ | ⟨y, R⟩⟩
  · obtain ⟨n0, n2, n4, _, hlen⟩ := eightH_nums 0 0 [] (by omega) (by omega)
    have ho : OneBy (eight []) true [] [] := ⟨rfl, fun i z hz => by simp at hz⟩
    have hrw := LkRows.eight (bs := eight []) (glyphs := glyphs) (size := 2) (by show 6 ≤ (eightH 0 0 []).length; rw [hlen]; simp) n0 (by show num (eightH 0 0 []) 2 2 + num (eightH 0 0 []) 4 2 ≤ 65536; omega)
    rw [show num (eight []) 4 2 = 0 from n4] at hrw
    exact ⟨[], ⟨hrw, ho.ok hR⟩, ho⟩
  · have hz1 := hR.2 z (by simp)
    obtain ⟨n0, n2, n4, n6, hlen⟩ := eightH_nums z.1 1 (beN 2 z.2) (by omega) (by omega)
    rw [beN_length] at hlen
    have n6' : num (eightH z.1 1 (beN 2 z.2)) 6 2 = z.2 := by
      rw [n6]
      have := num_beN2 z.2 [] hz1.2
      rwa [List.append_nil] at this
    have ho : OneBy (eight [z]) true [z] [⟨z.1, z.1 + 1 - 1, 6, 2, true⟩] := ⟨rfl, fun i y hy => by
      cases i with
      | zero =>
        simp at hy
        subst hy
        exact ⟨_, rfl, rfl, by show z.1 + 1 - 1 = z.1; omega, rfl, rfl, n6', fun _ => by show 6 + 2 ≤ (eightH z.1 1 (beN 2 z.2)).length; omega⟩
      | succ i => simp at hy⟩
    have hrw := LkRows.eight (bs := eight [z]) (glyphs := glyphs) (size := 2) (by show 6 ≤ (eightH z.1 1 (beN 2 z.2)).length; omega) n0 (by show num (eightH z.1 1 (beN 2 z.2)) 2 2 + num (eightH z.1 1 (beN 2 z.2)) 4 2 ≤ 65536; omega)
    rw [show num (eight [z]) 4 2 = 1 from n4, show num (eight [z]) 2 2 = z.1 from n2] at hrw
    exact ⟨_, ⟨hrw, ho.ok hR⟩, ho⟩
  · simp at hl
theorem own_set4 {v : World} {base n c g : Nat} {a : Option Addr} {xs : List Value} (h : v.ownsRow base 5 1 (.slice a n c) n xs) (hg : g < base) (x0 x1 x2 x3 : Value) : Has ((((v.setCell ⟨g, 0, none⟩ x0).setCell ⟨g, 1, none⟩ x1).setCell ⟨g, 2, none⟩ x2).setCell ⟨g, 3, none⟩ x3) a xs := by
  have hne : xs ≠ [] → ∀ p, a = some p → p.block ≠ g := fun _ p hp => by have := (owns_lt h p hp).1; omega
  exact has_set (has_set (has_set (has_set (has_of_owns h) hne _) hne _) hne _) hne _

def FmRel (b : Nat) (W : World) (R : List (Nat × Nat)) (v3 v4 v5 v6 i : Value) (wr : World) : Prop :=
  ∃ (k : Nat) (a3 a4 a5 a6 : Option Addr) (c3 c4 c5 c6 : Nat), k ≤ R.length ∧ i = .int .i64 (k : Nat) ∧ v3 = .slice a3 (k * 6) c3 ∧ v4 = .slice a4 (k * 6) c4 ∧ v5 = .slice a5 (k * 4) c5 ∧ v6 = .slice a6 (k * 2) c6 ∧
    Apart4 b wr ⟨a3, k * 6, c3, (R.take k).flatMap rowQ⟩ ⟨a4, k * 6, c4, ((L4 R).take k).flatMap rowQ⟩ ⟨a5, k * 4, c5, (R.take k).flatMap (row6 2)⟩ ⟨a6, k * 2, c6, (R.take k).flatMap valB⟩ ∧ Below b W wr
set_option maxRecDepth 100000 in
set_option maxHeartbeats 3200000 in
theorem forms_any (a : Option Addr) (n c : Nat) (R : List (Nat × Nat)) (w : World) (h : Has w a (pairsV R)) (hl : R.length = n) (hn : n ≤ c) (hc : c ≤ maxLen) (h30 : n ≤ 250) (hR : Ris R) (hsp : ∀ p, a = some p → ∃ g, p = ⟨g, 0, none⟩) :
    Calls Try.prog 13 #[.slice a n c] w fun e w' => ∃ (a1 a2 a3 a4 : Option Addr) (c1 c2 c3 c4 n4 : Nat), e = .returned (.agg #[.slice a1 (two R).length c1, .slice a2 (four R).length c2, .slice a3 (six 2 R).length c3, .slice a4 n4 c4]) ∧
      Has w' a1 (bytesV (two R)) ∧ Has w' a2 (bytesV (four R)) ∧ Has w' a3 (bytesV (six 2 R)) ∧ (n ≤ 1 → n4 = (eight R).length ∧ Has w' a4 (bytesV (eight R))) ∧
      (two R).length ≤ c1 ∧ c1 ≤ maxLen ∧ (four R).length ≤ c2 ∧ c2 ≤ maxLen ∧ (six 2 R).length ≤ c3 ∧ c3 ≤ maxLen ∧ n4 ≤ c4 ∧ c4 ≤ maxLen ∧ Below w.heap.size w w' := by
  have hAC := allocC
  have hAF := allocF
  have HH := Lib.hid h
  have HL := Lib.hid hl
  have HR := Lib.hid hR
  have HSP := Lib.hid hsp
  clear h hl hR hsp
  go_enter Try.func13, Try.ntmps13
  go_wp2_with fail
  obtain ⟨W0, hW0⟩ : ∃ W0, W0 = w.alloc (Obj.cells #[Value.slice none 0 0, Value.slice none 0 0, Value.slice none 0 0, Value.slice none 0 0] 35) := ⟨_, rfl⟩
  have hs0 : W0.heap.size = w.heap.size + 1 := by rw [hW0]; simp
  have hb0 : Below w.heap.size w W0 := by rw [hW0]; exact balloc (brefl _) _
  have hGF : ∀ j, W0.frozen? ⟨w.heap.size, j, none⟩ = false := fun j => by rw [hW0, hAF, if_pos rfl]
  have hG : ∀ j, j < 4 → W0.cell? ⟨w.heap.size, j, none⟩ = some (.slice none 0 0) := fun j hj => by
    rw [hW0, hAC, if_pos rfl]
    rcases j with _ | _ | _ | _ | j <;> first | rfl | omega
  have HI := Lib.hid (show FmRel W0.heap.size W0 R (.slice none 0 0) (.slice none 0 0) (.slice none 0 0) (.slice (some ⟨W0.heap.size, 0, none⟩) 0 0) (.int .i64 0) (W0.alloc (Obj.cells #[] 5)) from by
    refine ⟨0, none, none, none, some ⟨W0.heap.size, 0, none⟩, 0, 0, 0, 0, Nat.zero_le _, rfl, rfl, rfl, rfl, rfl, ⟨⟨rfl, .inl ⟨rfl, rfl⟩⟩, ⟨rfl, .inl ⟨rfl, rfl⟩⟩, ⟨rfl, .inl ⟨rfl, rfl⟩⟩, ?_, ?_, ?_, ?_, ?_, ?_, ?_⟩, balloc (brefl _) _⟩
    · exact World.ownsRow_lit W0 #[] 0 (Nat.le_refl _) (by decide) rfl
    all_goals exact fun p q h _ => by cases h)
  rw [← hW0]
  rw [← hs0]
  have HS0 := Lib.hid (show w.heap.size ≤ W0.heap.size by omega)
  have HS1 := Lib.hid (show w.heap.size < W0.heap.size by omega)
  clear hs0
  have HG := Lib.hid hG
  have HGF := Lib.hid hGF
  have HB0 := Lib.hid hb0
  clear hG hGF hb0 hW0
  go_loopw [3, 4, 5, 6, 20] (FmRel W0.heap.size W0 R) (fun _ _ _ _ i _ => n - (intOf i).toNat)
  case atStart => exact HI.out
  case round =>
    obtain ⟨k, a3, a4, a5, a6, c3, c4, c5, c6, hk, rfl, rfl, rfl, rfl, rfl, hap, hbr⟩ := hrel
    rw [HL.out] at hk
    have HAP := Lib.hid hap
    have HBR := Lib.hid hbr
    clear hap hbr HI
    by_cases hlt : k < n
    · obtain ⟨z, hz⟩ : ∃ z, R[k]? = some z := ⟨_, List.getElem?_eq_getElem (by rw [HL.out]; exact hlt)⟩
      obtain ⟨g0, g1⟩ := pairsV_get R k z hz
      have hz1 := HR.out.2 z (List.mem_of_getElem? hz)
      have hhv := HH.out.below (HB0.out.trans (HBR.out.mono HS0.out))
      obtain ⟨p, hap, k0⟩ := hhv _ _ g0
      have k1 : wr.cell? ((p.add (k * 2)).add 1) = some (.int .u16 (z.2 : Nat)) := by
        obtain ⟨x, hx, hc⟩ := hhv _ _ g1
        rw [hap] at hx; cases hx
        have : (p.add (k * 2)).add 1 = p.add (k * 2 + 1) := by
          obtain ⟨b, o, s⟩ := p
          simp only [Addr.add]
          by_cases h : k * 2 = 0 <;> simp [h, Nat.add_assoc]
        rw [this]; exact hc
      have k2 : wr.cell? ⟨(p.add (k * 2)).block, (p.add (k * 2)).off + 1, none⟩ = some (.int .u16 (z.2 : Nat)) := by
        rw [add_next]
        obtain ⟨x, hx, hc⟩ := hhv _ _ g1
        rw [hap] at hx; cases hx; exact hc
      have HZ := Lib.hid hz
      have HAPP := Lib.hid hap
      subst hap
      obtain ⟨z1, z2⟩ := z
      simp only at hz1 k0 k1 k2
      obtain ⟨hz1, hz2⟩ := hz1
      clear g0 g1 hhv hz
      go_wp2_with fail
      obtain ⟨wv, hwv⟩ : ∃ wv, wv = wr.alloc (Obj.cells #[.int .u16 (z1 : Nat), .int .u16 (z2 : Nat)] 34) := ⟨_, rfl⟩
      have hbv : Below wr.heap.size wr wv := by rw [hwv]; exact balloc (brefl _) _
      have hP0 : wv.cell? ⟨wr.heap.size, 0, none⟩ = some (.int .u16 (z1 : Nat)) := by rw [hwv, hAC, if_pos rfl]; rfl
      have hP1 : wv.cell? ⟨wr.heap.size, 1, none⟩ = some (.int .u16 (z2 : Nat)) := by rw [hwv, hAC, if_pos rfl]; rfl
      have hgp : wr.heap.size < wv.heap.size := cell_lt hP0
      have HAV := Lib.hid (HAP.out.below hbv)
      have HBV := Lib.hid (HBR.out.trans (hbv.mono HBR.out.size))
      have HLT := Lib.hid hlt
      rw [← hwv]
      clear hwv hbv k0 k1 k2 hlt
      generalize wr.heap.size = gp at *
      generalize hm6 : k * 6 = m6 at *
      generalize hm4 : k * 4 = m4 at *
      generalize hm2 : k * 2 = m2 at *
      have HM6 := Lib.hid hm6
      have HM4 := Lib.hid hm4
      have HM2 := Lib.hid hm2
      have hb6 : m6 ≤ 1000000 := by omega
      have hb4 : m4 ≤ 1000000 := by omega
      have hb2 : m2 ≤ 1000000 := by omega
      clear hm6 hm4 hm2
      refine wp_region_ord [0, 1, 2, 3, 4, 5, 6, 7] (by kernel_rfl) (by kernel_rfl) (by kernel_rfl) (by kernel_rfl) (by intro _ _ d_ _ _ h_; cases d_ <;> first | exact h_ | (dsimp +zetaDelta only at h_ ⊢; exact h_)) (fun w' => ∃ p : Wld wv [], w' = p.val) (wld_start _ _) ?_
      have hG_ := @wldC wv
      (refine ord_quiet (by simp only [List.getElem?_toArray, List.getElem?_cons_succ, List.getElem?_cons_zero]; rfl) (by rfl) (by rfl) (fun K_ hK_ => ?_); go_big_quiet_op; refine hK_ _ ?_; clear hK_ K_)
      (refine ord_quiet (by simp only [List.getElem?_toArray, List.getElem?_cons_succ, List.getElem?_cons_zero]; rfl) (by rfl) (by rfl) (fun K_ hK_ => ?_); go_big_quiet_op; refine hK_ _ ?_; clear hK_ K_)
      (refine ord_quiet (by simp only [List.getElem?_toArray, List.getElem?_cons_succ, List.getElem?_cons_zero]; rfl) (by rfl) (by rfl) (fun K_ hK_ => ?_); go_big_quiet_op; refine hK_ _ ?_; clear hK_ K_)
      (refine ord_quiet (by simp only [List.getElem?_toArray, List.getElem?_cons_succ, List.getElem?_cons_zero]; rfl) (by rfl) (by rfl) (fun K_ hK_ => ?_); go_big_quiet_op; refine hK_ _ ?_; clear hK_ K_)
      (refine ord_quiet (by simp only [List.getElem?_toArray, List.getElem?_cons_succ, List.getElem?_cons_zero]; rfl) (by rfl) (by rfl) (fun K_ hK_ => ?_); go_big_quiet_op; refine hK_ _ ?_; clear hK_ K_)
      (refine ord_quiet (by simp only [List.getElem?_toArray, List.getElem?_cons_succ, List.getElem?_cons_zero]; rfl) (by rfl) (by rfl) (fun K_ hK_ => ?_); go_big_quiet_op; refine hK_ _ ?_; clear hK_ K_)
      (refine ord_quiet (by simp only [List.getElem?_toArray, List.getElem?_cons_succ, List.getElem?_cons_zero]; rfl) (by rfl) (by rfl) (fun K_ hK_ => ?_); go_big_quiet_op; refine hK_ _ ?_; clear hK_ K_)
      (refine ord_quiet (by simp only [List.getElem?_toArray, List.getElem?_cons_succ, List.getElem?_cons_zero]; rfl) (by rfl) (by rfl) (fun K_ hK_ => ?_); go_big_quiet_op; refine hK_ _ ?_; clear hK_ K_)
      refine ord_nil ?_
      clear hG_
      clear hP0 hP1 hgp
      have HAD := Lib.hid (HAV.out.below (bdrew1 (brefl wv)))
      have HBD := Lib.hid (HBV.out.trans ((bdrew1 (brefl wv)).mono HBV.out.size))
      clear HAV HBV
      generalize wv.drew = wd at *
      go_wp2_with fail
      refine (put_z W0.heap.size a3 m6 c3 z1 2 (z1 : Int) 2 (by first | rfl | omega) rfl _ wd HAD.out.o1 HBD.out.size (by omega) (by omega) (by omega)).mono ?_
      rintro e w30 ⟨b30, e30, rfl, ho30, _, _, _, hb30, _, hf30⟩
      have HO30 := Lib.hid ho30
      have HB30 := Lib.hid (HBD.out.trans hb30)
      have HF30 := Lib.hid hf30
      clear ho30 hb30 hf30
      go_wp2_with fail
      refine (put_z W0.heap.size b30 (m6 + 2) e30 z1 2 (z1 : Int) 2 (by first | rfl | omega) rfl _ w30 HO30.out HB30.out.size (by omega) (by omega) (by omega)).mono ?_
      rintro e w31 ⟨b31, e31, rfl, ho31, _, _, _, hb31, _, hf31⟩
      have HO31 := Lib.hid ho31
      have HB31 := Lib.hid (HB30.out.trans hb31)
      have HF31 := Lib.hid (HF30.out.trans hf31)
      clear ho31 hb31 hf31
      go_wp2_with fail
      refine (put_z W0.heap.size b31 (m6 + 2 + 2) e31 z2 2 (z2 : Int) 2 (by first | rfl | omega) rfl _ w31 HO31.out HB31.out.size (by omega) (by omega) (by omega)).mono ?_
      rintro e w32 ⟨b32, e32, rfl, ho32, _, _, _, hb32, _, hf32⟩
      have HO32 := Lib.hid ho32
      have HB32 := Lib.hid (HB31.out.trans hb32)
      have HF32 := Lib.hid (HF31.out.trans hf32)
      clear ho32 hb32 hf32
      have HA3 := Lib.hid (HAD.out.put HF32.out HO32.out).rot
      go_wp2_with fail
      refine (put_z W0.heap.size a4 m6 c4 z1 2 (z1 : Int) 2 (by first | rfl | omega) rfl _ w32 HA3.out.o1 HB32.out.size (by omega) (by omega) (by omega)).mono ?_
      rintro e w40 ⟨b40, e40, rfl, ho40, _, _, _, hb40, _, hf40⟩
      have HO40 := Lib.hid ho40
      have HB40 := Lib.hid (HB32.out.trans hb40)
      have HF40 := Lib.hid hf40
      clear ho40 hb40 hf40
      go_wp2_with fail
      refine (put_z W0.heap.size b40 (m6 + 2) e40 z1 2 (z1 : Int) 2 (by first | rfl | omega) rfl _ w40 HO40.out HB40.out.size (by omega) (by omega) (by omega)).mono ?_
      rintro e w41 ⟨b41, e41, rfl, ho41, _, _, _, hb41, _, hf41⟩
      have HO41 := Lib.hid ho41
      have HB41 := Lib.hid (HB40.out.trans hb41)
      have HF41 := Lib.hid (HF40.out.trans hf41)
      clear ho41 hb41 hf41
      go_wp2_with fail
      refine (put_z W0.heap.size b41 (m6 + 2 + 2) e41 (12 + 6 * n + 2 * k) 2 (12 + 6 * (n : Int) + 2 * (k : Int)) 2 (by first | rfl | omega) rfl _ w41 HO41.out HB41.out.size (by omega) (by omega) (by omega)).mono ?_
      rintro e w42 ⟨b42, e42, rfl, ho42, _, _, _, hb42, _, hf42⟩
      have HO42 := Lib.hid ho42
      have HB42 := Lib.hid (HB41.out.trans hb42)
      have HF42 := Lib.hid (HF41.out.trans hf42)
      clear ho42 hb42 hf42
      have HA4 := Lib.hid (HA3.out.put HF42.out HO42.out).rot
      go_wp2_with fail
      refine (put_z W0.heap.size a5 m4 c5 z1 2 (z1 : Int) 2 (by first | rfl | omega) rfl _ w42 HA4.out.o1 HB42.out.size (by omega) (by omega) (by omega)).mono ?_
      rintro e w50 ⟨b50, e50, rfl, ho50, _, _, _, hb50, _, hf50⟩
      have HO50 := Lib.hid ho50
      have HB50 := Lib.hid (HB42.out.trans hb50)
      have HF50 := Lib.hid hf50
      clear ho50 hb50 hf50
      go_wp2_with fail
      refine (put_z W0.heap.size b50 (m4 + 2) e50 z2 2 (z2 : Int) 2 (by first | rfl | omega) rfl _ w50 HO50.out HB50.out.size (by omega) (by omega) (by omega)).mono ?_
      rintro e w51 ⟨b51, e51, rfl, ho51, _, _, _, hb51, _, hf51⟩
      have HO51 := Lib.hid ho51
      have HB51 := Lib.hid (HB50.out.trans hb51)
      have HF51 := Lib.hid (HF50.out.trans hf51)
      clear ho51 hb51 hf51
      have HA5 := Lib.hid (HA4.out.put HF51.out HO51.out).rot
      go_wp2_with fail
      refine (put_z W0.heap.size a6 m2 c6 z2 2 (z2 : Int) 2 (by first | rfl | omega) rfl _ w51 HA5.out.o1 HB51.out.size (by omega) (by omega) (by omega)).mono ?_
      rintro e w60 ⟨b60, e60, rfl, ho60, _, _, _, hb60, _, hf60⟩
      have HO60 := Lib.hid ho60
      have HB60 := Lib.hid (HB51.out.trans hb60)
      have HF60 := Lib.hid hf60
      clear ho60 hb60 hf60
      have HA6 := Lib.hid (HA5.out.put HF60.out HO60.out).rot
      go_wp2_with fail
      go_roundw
      case rel =>
        have e3 : (R.take (k + 1)).flatMap rowQ = (R.take k).flatMap rowQ ++ beN 2 z1 ++ beN 2 z1 ++ beN 2 z2 := by rw [List.take_add_one, HZ.out]; simp [rowQ]
        have e4 : ((L4 R).take (k + 1)).flatMap rowQ = ((L4 R).take k).flatMap rowQ ++ beN 2 z1 ++ beN 2 z1 ++ beN 2 (12 + 6 * n + 2 * k) := by rw [List.take_add_one, L4_get R k _ HZ.out, HL.out]; simp [rowQ]
        have e5 : (R.take (k + 1)).flatMap (row6 2) = (R.take k).flatMap (row6 2) ++ beN 2 z1 ++ beN 2 z2 := by rw [List.take_add_one, HZ.out]; simp [row6]
        have e6 : (R.take (k + 1)).flatMap valB = (R.take k).flatMap valB ++ beN 2 z2 := by rw [List.take_add_one, HZ.out]; simp [valB]
        have m6' : (k + 1) * 6 = m6 + 2 + 2 + 2 := by rw [← HM6.out]; omega
        have m4' : (k + 1) * 4 = m4 + 2 + 2 := by rw [← HM4.out]; omega
        have m2' : (k + 1) * 2 = m2 + 2 := by rw [← HM2.out]; omega
        refine ⟨k + 1, b32, b42, b51, b60, e32, e42, e51, e60, by rw [HL.out]; exact HLT.out, by go_num, by rw [m6'], by rw [m6'], by rw [m4'], by rw [m2'], ?_, HB60.out⟩
        rw [e3, e4, e5, e6, m6', m4', m2']
        exact HA6.out
      case measure => simp [intOf]; have := HLT.out; omega
    · obtain rfl : k = n := by omega
      have ek : ∀ (f : Nat × Nat → List UInt8), (R.take k).flatMap f = R.flatMap f := fun f => by rw [← HL.out, List.take_length]
      have ek4 : (L4 R).take k = L4 R := by rw [← HL.out, ← L4_length R, List.take_length]
      have hap := HAP.out
      rw [ek rowQ, ek4, ek (row6 2), ek valB] at hap
      obtain ⟨_, _, q3, _, _, q3n⟩ := owns_slice hap.o1
      cases q3
      obtain ⟨_, _, q4, _, _, q4n⟩ := owns_slice hap.o2
      cases q4
      obtain ⟨_, _, q5, _, _, q5n⟩ := owns_slice hap.o3
      cases q5
      obtain ⟨_, _, q6, _, _, q6n⟩ := owns_slice hap.o4
      cases q6
      have l3 : (bytesV (R.flatMap rowQ)).length = k * 6 * 1 := by rw [bytesV_length, flat_length _ 6 rowQ_length, HL.out, Nat.mul_one]
      have l4 : (bytesV ((L4 R).flatMap rowQ)).length = k * 6 * 1 := by rw [bytesV_length, flat_length _ 6 rowQ_length, L4_length, HL.out, Nat.mul_one]
      have l5 : (bytesV (R.flatMap (row6 2))).length = k * 4 * 1 := by rw [bytesV_length, flat_length _ 4 (row6_length 2), HL.out, Nat.mul_one]
      have l6 : (bytesV (R.flatMap valB)).length = k * 2 * 1 := by rw [bytesV_length, flat_length _ 2 valB_length, HL.out, Nat.mul_one]
      have HX3 := Lib.hid (show Has wr a3 (bytesV (R.flatMap rowQ)) from has_of_owns hap.o1)
      have HX4 := Lib.hid (show Has wr a4 (bytesV ((L4 R).flatMap rowQ)) from has_of_owns hap.o2)
      have HX5 := Lib.hid (show Has wr a5 (bytesV (R.flatMap (row6 2))) from has_of_owns hap.o3)
      have HX6 := Lib.hid (show Has wr a6 (bytesV (R.flatMap valB)) from has_of_owns hap.o4)
      have HN3 := Lib.hid (show a3 = none → c3 = 0 from q3n)
      have HN4 := Lib.hid (show a4 = none → c4 = 0 from q4n)
      have HN5 := Lib.hid (show a5 = none → c5 = 0 from q5n)
      have HN6 := Lib.hid (show a6 = none → c6 = 0 from q6n)
      have HL3 := Lib.hid l3
      have HL4 := Lib.hid l4
      have HL5 := Lib.hid l5
      have HL6 := Lib.hid l6
      have HQ := Lib.hid (show two R = headB 2 6 k ++ R.flatMap rowQ ∧ four R = headB 4 6 k ++ (L4 R).flatMap rowQ ++ R.flatMap valB ∧ six 2 R = headB 6 4 k ++ R.flatMap (row6 2) from by
        refine ⟨?_, ?_, ?_⟩
        · rw [two, qs, HL.out, List.append_nil]
        · rw [four, qs, L4_length, HL.out]
        · rw [six, HL.out])
      clear ek ek4 hap q3n q4n q5n q6n l3 l4 l5 l6 HAP hlt hk
      generalize R.flatMap rowQ = x3 at *
      generalize (L4 R).flatMap rowQ = x4 at *
      generalize R.flatMap (row6 2) = x5 at *
      generalize R.flatMap valB = x6 at *
      generalize hm6 : k * 6 = m6 at *
      generalize hm4 : k * 4 = m4 at *
      generalize hm2 : k * 2 = m2 at *
      have HM6 := Lib.hid hm6
      have HM4 := Lib.hid hm4
      have HM2 := Lib.hid hm2
      have hb6 : m6 ≤ 1500 := by omega
      have hb4 : m4 ≤ 1000 := by omega
      have hb2 : m2 ≤ 500 := by omega
      clear hm6 hm4 hm2
      go_wp2_with fail
      refine (put_z wr.heap.size none 0 0 8 2 8 2 rfl rfl [] wr ⟨rfl, .inl ⟨rfl, rfl⟩⟩ (Nat.le_refl _) (by omega) (by omega) (by omega)).mono ?_
      rintro e w70 ⟨b70, e70, rfl, ho70, p70, r70, _, hb70, _, _⟩
      have HO70 := Lib.hid ho70
      have HB70 := Lib.hid (hb70)
      clear ho70 hb70 p70 r70
      go_wp2_with fail
      refine (put_z wr.heap.size b70 (0 + 2) e70 0 2 0 2 rfl rfl _ w70 HO70.out HB70.out.size (by omega) (by omega) (by omega)).mono ?_
      rintro e w71 ⟨b71, e71, rfl, ho71, p71, r71, _, hb71, _, _⟩
      have HO71 := Lib.hid ho71
      have HB71 := Lib.hid (HB70.out.trans hb71)
      clear ho71 hb71 p71 r71
      go_wp2_with fail
      refine (put_z wr.heap.size b71 (0 + 2 + 2) e71 0 2 0 2 rfl rfl _ w71 HO71.out HB71.out.size (by omega) (by omega) (by omega)).mono ?_
      rintro e w72 ⟨b72, e72, rfl, ho72, p72, r72, _, hb72, _, _⟩
      have HO72 := Lib.hid ho72
      have HB72 := Lib.hid (HB71.out.trans hb72)
      clear ho72 hb72
      by_cases h1 : k = 1
      case neg =>
        have e1 : ((k : Int) == 1) = false := by rw [beq_eq_false_iff_ne]; omega
        have H1 := Lib.hid h1
        clear h1
        generalize hn7 : 0 + 2 + 2 + 2 = n7 at *
        have hn72 : n7 ≤ 8 := by omega
        have HN7 := Lib.hid hn7
        have HPR := Lib.hid (show n7 ≤ e72 ∧ e72 ≤ maxLen from ⟨p72, r72⟩)
        have HE := Lib.hid (show k ≤ 1 → n7 = (eight R).length ∧ [] ++ beN 2 8 ++ beN 2 0 ++ beN 2 0 = eight R from fun hk1 => by
          have hR0 : R = [] := List.eq_nil_of_length_eq_zero (by rw [HL.out]; have := H1.out; omega)
          rw [hR0, ← hn7]
          exact ⟨rfl, rfl⟩)
        clear hn7
        go_wp2_with fail
        have HZC := Lib.hid (fun (W : World) (hW : Below w72.heap.size w72 W) (j : Nat) (hj : j < 4) => show W.cell? ⟨w.heap.size, j, none⟩ = some (.slice none 0 0) from by
          have hall := HBR.out.trans ((HB72.out.trans (hW.mono HB72.out.size)).mono HBR.out.size)
          exact (hall.cell (p := ⟨w.heap.size, j, none⟩) HS1.out).trans (HG.out j hj))
        have HZF := Lib.hid (fun (W : World) (hW : Below w72.heap.size w72 W) (j : Nat) => show W.frozen? ⟨w.heap.size, j, none⟩ = false from by
          have hall := HBR.out.trans ((HB72.out.trans (hW.mono HB72.out.size)).mono HBR.out.size)
          exact (hall.frozen (p := ⟨w.heap.size, j, none⟩) HS1.out).trans (HGF.out j))
        have Y7 := Lib.hid (show w72.ownsRow wr.heap.size 5 1 (.slice b72 n7 e72) n7 (bytesV ([] ++ beN 2 8 ++ beN 2 0 ++ beN 2 0)) from HO72.out)
        refine (head_any 2 6 k 2 6 (k : Int) rfl rfl rfl (by omega) (by omega) (by omega) w72).mono ?_
        rintro e v1 ⟨d1, f1, rfl, o1, _, _, _, hv1⟩
        have O1 := Lib.hid o1
        have U1 := Lib.hid hv1
        have V1 := Lib.hid (HX3.out.below (HB72.out.trans (hv1.mono HB72.out.size)))
        have Z1 := Lib.hid hv1.size
        clear o1 hv1
        go_wp2_with (first | (at_builtin; refine wpApp rfl _ _ 22 rfl w72.heap.size 5 (.int .u8 0) 1 1 Try.underlying22 u8_info rfl (by decide) _ 12 (bytesV (headB 2 6 k)) rfl O1.out a3 m6 c3 (bytesV x3) rfl HL3.out V1.out HN3.out (bytesV_one _) (by unfold maxLen; omega) (by omega) Z1.out ?_; intro d2 f2 v2 o2 p2 r2 _ hv2 _; have O2 := Lib.hid o2; have U2 := Lib.hid (U1.out.trans hv2); clear o2 hv2))
        have P2 := Lib.hid p2
        have R2 := Lib.hid r2
        clear p2 r2
        refine (head_any 4 6 k 4 6 (k : Int) rfl rfl rfl (by omega) (by omega) (by omega) v2).mono ?_
        rintro e v3 ⟨d3, f3, rfl, o3, _, _, _, hv3⟩
        have O3 := Lib.hid o3
        have S3 := Lib.hid hv3
        have U3 := Lib.hid (U2.out.trans (hv3.mono U2.out.size))
        have V3 := Lib.hid (HX4.out.below (HB72.out.trans (U3.out.mono HB72.out.size)))
        have Z3 := Lib.hid hv3.size
        clear o3 hv3
        have HU := Lib.hid U2.out.size
        have HW := Lib.hid HB72.out.size
        go_wp2_with (first
          | (at_builtin; refine wpApp rfl _ _ 22 rfl v2.heap.size 5 (.int .u8 0) 1 1 Try.underlying22 u8_info rfl (by decide) _ 12 (bytesV (headB 4 6 k)) rfl O3.out a4 m6 c4 (bytesV x4) rfl HL4.out V3.out HN4.out (bytesV_one _) (by unfold maxLen; omega) (by omega) Z3.out ?_; intro d4 f4 v4 o4 p4 r4 _ hv4 _; have O4 := Lib.hid o4; have S4 := Lib.hid (S3.out.trans hv4); have U4 := Lib.hid (U3.out.trans (hv4.mono HU.out)); have V4 := Lib.hid (HX6.out.below (HB72.out.trans (U4.out.mono HW.out))); have Z4 := Lib.hid S4.out.size; clear o4 hv4 p4 r4)
          | (at_builtin; refine wpApp rfl _ _ 22 rfl v2.heap.size 5 (.int .u8 0) 1 1 Try.underlying22 u8_info rfl (by decide) _ (12 + m6) (bytesV (headB 4 6 k) ++ bytesV x4) rfl O4.out a6 m2 c6 (bytesV x6) rfl HL6.out V4.out HN6.out (bytesV_one _) (by unfold maxLen; omega) (by omega) Z4.out ?_; intro d5 f5 v5 o5 p5 r5 _ hv5 _; have O5 := Lib.hid o5; have S5 := Lib.hid (S4.out.trans hv5); have U5 := Lib.hid (U4.out.trans (hv5.mono HU.out)); clear o5 hv5))
        have P5 := Lib.hid p5
        have R5 := Lib.hid r5
        clear p5 r5
        refine (head_any 6 4 k 6 4 (k : Int) rfl rfl rfl (by omega) (by omega) (by omega) v5).mono ?_
        rintro e v6 ⟨d6, f6, rfl, o6, _, _, _, hv6⟩
        have O6 := Lib.hid o6
        have T6 := Lib.hid hv6
        have U6 := Lib.hid (U5.out.trans (hv6.mono U5.out.size))
        have V6 := Lib.hid (HX5.out.below (HB72.out.trans (U6.out.mono HB72.out.size)))
        have Z6 := Lib.hid hv6.size
        clear o6 hv6
        have HU5 := Lib.hid U5.out.size
        go_wp2_with (first | (at_builtin; refine wpApp rfl _ _ 22 rfl v5.heap.size 5 (.int .u8 0) 1 1 Try.underlying22 u8_info rfl (by decide) _ 12 (bytesV (headB 6 4 k)) rfl O6.out a5 m4 c5 (bytesV x5) rfl HL5.out V6.out HN5.out (bytesV_one _) (by unfold maxLen; omega) (by omega) Z6.out ?_; intro d7 f7 v7 o7 p7 r7 _ hv7 _; have O7 := Lib.hid o7; have T7 := Lib.hid (T6.out.trans hv7); have U7 := Lib.hid (U6.out.trans (hv7.mono HU5.out)); have P7 := Lib.hid p7; have R7 := Lib.hid r7; clear o7 hv7 p7 r7; have hz0 : v7.frozen? ⟨w.heap.size, 0, none⟩ = false := HZF.out v7 U7.out 0; have hz1 : v7.frozen? ⟨w.heap.size, 1, none⟩ = false := HZF.out v7 U7.out 1; have hz2 : v7.frozen? ⟨w.heap.size, 2, none⟩ = false := HZF.out v7 U7.out 2; have hz3 : v7.frozen? ⟨w.heap.size, 3, none⟩ = false := HZF.out v7 U7.out 3; have hq0 : v7.cell? ⟨w.heap.size, 0, none⟩ = some (.slice none 0 0) := HZC.out v7 U7.out 0 (by omega); have hq1 : v7.cell? ⟨w.heap.size, 1, none⟩ = some (.slice none 0 0) := HZC.out v7 U7.out 1 (by omega); have hq2 : v7.cell? ⟨w.heap.size, 2, none⟩ = some (.slice none 0 0) := HZC.out v7 U7.out 2 (by omega); have hq3 : v7.cell? ⟨w.heap.size, 3, none⟩ = some (.slice none 0 0) := HZC.out v7 U7.out 3 (by omega)))
        have Hw72 := Lib.hid (show w.heap.size < wr.heap.size from Nat.lt_of_lt_of_le HS1.out HBR.out.size)
        have o27 := owns_below (owns_below O2.out S5.out (Nat.le_refl _)) T7.out (Nat.le_refl _)
        have o57 := owns_below O5.out T7.out (Nat.le_refl _)
        have o77 := owns_below Y7.out U7.out (Nat.le_refl _)
        have g2 : w.heap.size < w72.heap.size := Nat.lt_of_lt_of_le Hw72.out HB72.out.size
        have g5 : w.heap.size < v2.heap.size := Nat.lt_of_lt_of_le g2 U2.out.size
        have g6 : w.heap.size < v5.heap.size := Nat.lt_of_lt_of_le g2 U5.out.size
        obtain ⟨t1, t2, t3⟩ := HQ.out
        have l3 := HL3.out
        have l4 := HL4.out
        have l5 := HL5.out
        have l6 := HL6.out
        rw [bytesV_length, Nat.mul_one] at l3 l4 l5 l6
        have n2 : (two R).length = 12 + m6 := by rw [t1, List.length_append, headB_length, l3]
        have n4 : (four R).length = 12 + m6 + m2 := by rw [t2, List.length_append, List.length_append, headB_length, l4, l6]
        have n6 : (six 2 R).length = 12 + m4 := by rw [t3, List.length_append, headB_length, l5]
        have q2 : bytesV (two R) = bytesV (headB 2 6 k) ++ bytesV x3 := by rw [t1]; simp [bytesV]
        have q4 : bytesV (four R) = bytesV (headB 4 6 k) ++ bytesV x4 ++ bytesV x6 := by rw [t2]; simp [bytesV]
        have q6 : bytesV (six 2 R) = bytesV (headB 6 4 k) ++ bytesV x5 := by rw [t3]; simp [bytesV]
        refine bodyPost_ret (v := .agg #[.slice d2 (12 + m6) f2, .slice d5 (12 + m6 + m2) f5, .slice d7 (12 + m4) f7, .slice b72 n7 e72]) (by simp [results, go_sem, hq0, hq1, hq2, hq3]) rfl ?_
        refine ⟨d2, d5, d7, b72, f2, f5, f7, e72, n7, by rw [n2, n4, n6], ?_, ?_, ?_, fun hk1 => ⟨(HE.out hk1).1, ?_⟩, by rw [n2]; exact P2.out, R2.out, by rw [n4]; exact P5.out, R5.out, by rw [n6]; exact P7.out, R7.out, HPR.out.1, HPR.out.2, ?_⟩
        · rw [q2]; exact own_set4 o27 g2 _ _ _ _
        · rw [q4]; exact own_set4 o57 g5 _ _ _ _
        · rw [q6]; exact own_set4 O7.out g6 _ _ _ _
        · rw [← (HE.out hk1).2]; exact own_set4 o77 Hw72.out _ _ _ _
        · exact bset (bset (bset (bset (HB0.out.trans ((HBR.out.trans ((HB72.out.trans (U7.out.mono HB72.out.size)).mono HBR.out.size)).mono HS0.out)) (Nat.le_refl _) _) (Nat.le_refl _) _) (Nat.le_refl _) _) (Nat.le_refl _) _
      case pos =>
        have e1 : ((k : Int) == 1) = true := by rw [h1]; rfl
        have hk0 : 0 < k := by omega
        have H1 := Lib.hid h1
        clear h1
        obtain ⟨z, hz⟩ : ∃ z, R[0]? = some z := ⟨_, List.getElem?_eq_getElem (by rw [HL.out]; exact hk0)⟩
        have hRz : R = [z] := by
          rcases R with _ | ⟨y, _ | ⟨x, R⟩⟩
          · simp at hz
          · simp at hz; rw [hz]
          · have := HL.out; have := H1.out; simp at *; omega
        obtain ⟨g0, g1⟩ := pairsV_get R 0 z hz
        have hz1 := HR.out.2 z (List.mem_of_getElem? hz)
        have HWW := Lib.hid (fun (W : World) (hW : Below w72.heap.size w72 W) => show Below w.heap.size w W from HB0.out.trans ((HBR.out.trans ((HB72.out.trans (hW.mono HB72.out.size)).mono HBR.out.size)).mono HS0.out))
        obtain ⟨p, hap, k0⟩ := (HH.out.below (HWW.out w72 (brefl _))) _ _ g0
        have k1 : w72.cell? (p.add 1) = some (.int .u16 (z.2 : Nat)) := by
          obtain ⟨x, hx, hc⟩ := (HH.out.below (HWW.out w72 (brefl _))) _ _ g1
          rw [hap] at hx; cases hx
          exact hc
        have hpl := cell_lt k0
        subst hap
        obtain ⟨z1, z2⟩ := z
        obtain ⟨pb, rfl⟩ := HSP.out p rfl
        simp only at hz1
        have k0' : w72.cell? ⟨pb, 0, none⟩ = some (.int .u16 (z1 : Nat)) := k0
        have k1' : w72.cell? ⟨pb, 1, none⟩ = some (.int .u16 (z2 : Nat)) := k1
        have hpl' : pb < w72.heap.size := hpl
        clear k0 k1 hpl
        obtain ⟨hz1, hz2⟩ := hz1
        have HRZ := Lib.hid hRz
        have HP1 := Lib.hid (fun (W : World) (hW : Below w72.heap.size w72 W) => show Calls Try.prog 35 #[.slice none 0 0, .int .i64 8, .int .i64 2] W fun e w' => ∃ a' c', e = .returned (.slice a' 2 c') ∧ w'.ownsRow w72.heap.size 5 1 (.slice a' 2 c') 2 (bytesV ([] ++ beN 2 8)) ∧ 2 ≤ c' ∧ c' ≤ maxLen ∧ (a' = none → c' = 0) ∧ Below w72.heap.size W w' ∧ Kept W w' ∧ PutFar W none w' a' from put_z w72.heap.size none 0 0 8 2 8 2 rfl rfl [] W ⟨rfl, .inl ⟨rfl, rfl⟩⟩ hW.size (by omega) (by omega) (by omega))
        have HP2 := Lib.hid (fun (x : Option Addr) (d : Nat) (ys : List UInt8) (W : World) (ho : W.ownsRow w72.heap.size 5 1 (.slice x 2 d) 2 (bytesV ys)) (hW : Below w72.heap.size w72 W) => show Calls Try.prog 35 #[.slice x 2 d, .int .i64 (z1 : Int), .int .i64 2] W fun e w' => ∃ a' c', e = .returned (.slice a' 4 c') ∧ w'.ownsRow w72.heap.size 5 1 (.slice a' 4 c') 4 (bytesV (ys ++ beN 2 z1)) ∧ 4 ≤ c' ∧ c' ≤ maxLen ∧ (a' = none → c' = 0) ∧ Below w72.heap.size W w' ∧ Kept W w' ∧ PutFar W x w' a' from put_z w72.heap.size x 2 d z1 2 (z1 : Int) 2 rfl rfl ys W ho hW.size (by omega) (by omega) (by omega))
        have HP3 := Lib.hid (fun (x : Option Addr) (d : Nat) (ys : List UInt8) (W : World) (ho : W.ownsRow w72.heap.size 5 1 (.slice x 4 d) 4 (bytesV ys)) (hW : Below w72.heap.size w72 W) => show Calls Try.prog 35 #[.slice x 4 d, .int .i64 1, .int .i64 2] W fun e w' => ∃ a' c', e = .returned (.slice a' 6 c') ∧ w'.ownsRow w72.heap.size 5 1 (.slice a' 6 c') 6 (bytesV (ys ++ beN 2 1)) ∧ 6 ≤ c' ∧ c' ≤ maxLen ∧ (a' = none → c' = 0) ∧ Below w72.heap.size W w' ∧ Kept W w' ∧ PutFar W x w' a' from put_z w72.heap.size x 4 d 1 2 1 2 rfl rfl ys W ho hW.size (by omega) (by omega) (by omega))
        have HP4 := Lib.hid (fun (x : Option Addr) (d : Nat) (ys : List UInt8) (W : World) (ho : W.ownsRow w72.heap.size 5 1 (.slice x 6 d) 6 (bytesV ys)) (hW : Below w72.heap.size w72 W) => show Calls Try.prog 35 #[.slice x 6 d, .int .i64 (z2 : Int), .int .i64 2] W fun e w' => ∃ a' c', e = .returned (.slice a' 8 c') ∧ w'.ownsRow w72.heap.size 5 1 (.slice a' 8 c') 8 (bytesV (ys ++ beN 2 z2)) ∧ 8 ≤ c' ∧ c' ≤ maxLen ∧ (a' = none → c' = 0) ∧ Below w72.heap.size W w' ∧ Kept W w' ∧ PutFar W x w' a' from put_z w72.heap.size x 6 d z2 2 (z2 : Int) 2 rfl rfl ys W ho hW.size (by omega) (by omega) (by omega))
        clear g0 g1 hz hRz p72 r72 HR
        go_wp2_with fail
        refine wp_region_tree (.step 1 (.step 2 (.step 3 (.step 4 (.step 5 (.step 8 (.step 9 (.step 10 (.step 11 (.step 12 (.step 0 (.step 6 (.step 7 (.step 13 (.step 14 .nil))))))))))))))) (by kernel_rfl) (by kernel_rfl) (by kernel_rfl) (by kernel_rfl) (by intro _ _ d_ _ _ h_; cases d_ <;> first | exact h_ | (dsimp +zetaDelta only at h_ ⊢; exact h_)) (fun w' => ∃ p : BelW w72.heap.size w72, w' = p.val) (bel_start _ _) ?_
        have hG_ := @belC w72.heap.size w72
        (refine tree_quiet (by simp only [List.getElem?_toArray, List.getElem?_cons_succ, List.getElem?_cons_zero]; rfl) (by rfl) (by rfl) (fun K_ hK_ => ?_); go_big_quiet_op; refine hK_ _ ?_; clear hK_ K_)
        (refine tree_quiet (by simp only [List.getElem?_toArray, List.getElem?_cons_succ, List.getElem?_cons_zero]; rfl) (by rfl) (by rfl) (fun K_ hK_ => ?_); go_big_quiet_op; refine hK_ _ ?_; clear hK_ K_)
        (refine tree_quiet (by simp only [List.getElem?_toArray, List.getElem?_cons_succ, List.getElem?_cons_zero]; rfl) (by rfl) (by rfl) (fun K_ hK_ => ?_); go_big_quiet_op; refine hK_ _ ?_; clear hK_ K_)
        (refine tree_quiet (by simp only [List.getElem?_toArray, List.getElem?_cons_succ, List.getElem?_cons_zero]; rfl) (by rfl) (by rfl) (fun K_ hK_ => ?_); go_big_quiet_op; refine hK_ _ ?_; clear hK_ K_)
        (refine tree_quiet (by simp only [List.getElem?_toArray, List.getElem?_cons_succ, List.getElem?_cons_zero]; rfl) (by rfl) (by rfl) (fun K_ hK_ => ?_); go_big_quiet_op; refine hK_ _ ?_; clear hK_ K_)
        (refine tree_quiet (by simp only [List.getElem?_toArray, List.getElem?_cons_succ, List.getElem?_cons_zero]; rfl) (by rfl) (by rfl) (fun K_ hK_ => ?_); go_big_quiet_op; refine hK_ _ ?_; clear hK_ K_)
        (refine tree_quiet (by simp only [List.getElem?_toArray, List.getElem?_cons_succ, List.getElem?_cons_zero]; rfl) (by rfl) (by rfl) (fun K_ hK_ => ?_); go_big_quiet_op; refine hK_ _ ?_; clear hK_ K_)
        (refine tree_quiet (by simp only [List.getElem?_toArray, List.getElem?_cons_succ, List.getElem?_cons_zero]; rfl) (by rfl) (by rfl) (fun K_ hK_ => ?_); go_big_quiet_op; refine hK_ _ ?_; clear hK_ K_)
        (refine tree_quiet (by simp only [List.getElem?_toArray, List.getElem?_cons_succ, List.getElem?_cons_zero]; rfl) (by rfl) (by rfl) (fun K_ hK_ => ?_); go_big_quiet_op; refine hK_ _ ?_; clear hK_ K_)
        (refine tree_quiet (by simp only [List.getElem?_toArray, List.getElem?_cons_succ, List.getElem?_cons_zero]; rfl) (by rfl) (by rfl) (fun K_ hK_ => ?_); go_big_quiet_op; refine hK_ _ ?_; clear hK_ K_)
        (refine tree_run (by simp only [List.getElem?_toArray, List.getElem?_cons_succ, List.getElem?_cons_zero]; rfl) (by rfl) (by rfl) (fun K_ hK_ => ?_); have HK_ := Lib.hid hK_; clear hK_; go_wp2_with (first | (go_at_call 35; (with_reducible refine (HP1.out _ (by repeat (first | exact Below.refl _ _ | assumption | refine bdrew1q ?_ | refine Below.trans ?_ (by assumption)))).mono ?_); rintro e y1 ⟨b81, e81, rfl, ho81, _, _, _, hb81, _, _⟩; have HO81 := Lib.hid ho81; clear ho81) | (go_at_call 35; (with_reducible refine (HP2.out b81 e81 _ y1 HO81.out (by repeat (first | exact Below.refl _ _ | assumption | refine bdrew1q ?_ | refine Below.trans ?_ (by assumption)))).mono ?_); rintro e y2 ⟨b82, e82, rfl, ho82, _, _, _, hb82, _, _⟩; have HO82 := Lib.hid ho82; clear ho82) | (go_at_call 35; (with_reducible refine (HP3.out b82 e82 _ y2 HO82.out (by repeat (first | exact Below.refl _ _ | assumption | refine bdrew1q ?_ | refine Below.trans ?_ (by assumption)))).mono ?_); rintro e y3 ⟨b83, e83, rfl, ho83, _, _, _, hb83, _, _⟩; have HO83 := Lib.hid ho83; clear ho83) | (go_at_call 35; (with_reducible refine (HP4.out b83 e83 _ y3 HO83.out (by repeat (first | exact Below.refl _ _ | assumption | refine bdrew1q ?_ | refine Below.trans ?_ (by assumption)))).mono ?_); rintro e y4 ⟨b84, e84, rfl, ho84, p84, r84, _, hb84, _, _⟩; have HO84 := Lib.hid ho84; clear ho84)); refine HK_.out _ _ (bel_of (by repeat (first | exact Below.refl _ _ | assumption | refine bdrew1q ?_ | refine balloc ?_ _ | refine bthen ?_ (by assumption) | refine Below.trans ?_ (by assumption)))) ?_; clear HK_)
        (refine tree_run (by simp only [List.getElem?_toArray, List.getElem?_cons_succ, List.getElem?_cons_zero]; rfl) (by rfl) (by rfl) (fun K_ hK_ => ?_); have HK_ := Lib.hid hK_; clear hK_; go_wp2_with (first | (go_at_call 35; (with_reducible refine (HP1.out _ (by repeat (first | exact Below.refl _ _ | assumption | refine bdrew1q ?_ | refine Below.trans ?_ (by assumption)))).mono ?_); rintro e y1 ⟨b81, e81, rfl, ho81, _, _, _, hb81, _, _⟩; have HO81 := Lib.hid ho81; clear ho81) | (go_at_call 35; (with_reducible refine (HP2.out b81 e81 _ y1 HO81.out (by repeat (first | exact Below.refl _ _ | assumption | refine bdrew1q ?_ | refine Below.trans ?_ (by assumption)))).mono ?_); rintro e y2 ⟨b82, e82, rfl, ho82, _, _, _, hb82, _, _⟩; have HO82 := Lib.hid ho82; clear ho82) | (go_at_call 35; (with_reducible refine (HP3.out b82 e82 _ y2 HO82.out (by repeat (first | exact Below.refl _ _ | assumption | refine bdrew1q ?_ | refine Below.trans ?_ (by assumption)))).mono ?_); rintro e y3 ⟨b83, e83, rfl, ho83, _, _, _, hb83, _, _⟩; have HO83 := Lib.hid ho83; clear ho83) | (go_at_call 35; (with_reducible refine (HP4.out b83 e83 _ y3 HO83.out (by repeat (first | exact Below.refl _ _ | assumption | refine bdrew1q ?_ | refine Below.trans ?_ (by assumption)))).mono ?_); rintro e y4 ⟨b84, e84, rfl, ho84, p84, r84, _, hb84, _, _⟩; have HO84 := Lib.hid ho84; clear ho84)); refine HK_.out _ _ (bel_of (by repeat (first | exact Below.refl _ _ | assumption | refine bdrew1q ?_ | refine balloc ?_ _ | refine bthen ?_ (by assumption) | refine Below.trans ?_ (by assumption)))) ?_; clear HK_)
        (refine tree_run (by simp only [List.getElem?_toArray, List.getElem?_cons_succ, List.getElem?_cons_zero]; rfl) (by rfl) (by rfl) (fun K_ hK_ => ?_); have HK_ := Lib.hid hK_; clear hK_; go_wp2_with (first | (go_at_call 35; (with_reducible refine (HP1.out _ (by repeat (first | exact Below.refl _ _ | assumption | refine bdrew1q ?_ | refine Below.trans ?_ (by assumption)))).mono ?_); rintro e y1 ⟨b81, e81, rfl, ho81, _, _, _, hb81, _, _⟩; have HO81 := Lib.hid ho81; clear ho81) | (go_at_call 35; (with_reducible refine (HP2.out b81 e81 _ y1 HO81.out (by repeat (first | exact Below.refl _ _ | assumption | refine bdrew1q ?_ | refine Below.trans ?_ (by assumption)))).mono ?_); rintro e y2 ⟨b82, e82, rfl, ho82, _, _, _, hb82, _, _⟩; have HO82 := Lib.hid ho82; clear ho82) | (go_at_call 35; (with_reducible refine (HP3.out b82 e82 _ y2 HO82.out (by repeat (first | exact Below.refl _ _ | assumption | refine bdrew1q ?_ | refine Below.trans ?_ (by assumption)))).mono ?_); rintro e y3 ⟨b83, e83, rfl, ho83, _, _, _, hb83, _, _⟩; have HO83 := Lib.hid ho83; clear ho83) | (go_at_call 35; (with_reducible refine (HP4.out b83 e83 _ y3 HO83.out (by repeat (first | exact Below.refl _ _ | assumption | refine bdrew1q ?_ | refine Below.trans ?_ (by assumption)))).mono ?_); rintro e y4 ⟨b84, e84, rfl, ho84, p84, r84, _, hb84, _, _⟩; have HO84 := Lib.hid ho84; clear ho84)); refine HK_.out _ _ (bel_of (by repeat (first | exact Below.refl _ _ | assumption | refine bdrew1q ?_ | refine balloc ?_ _ | refine bthen ?_ (by assumption) | refine Below.trans ?_ (by assumption)))) ?_; clear HK_)
        (refine tree_run (by simp only [List.getElem?_toArray, List.getElem?_cons_succ, List.getElem?_cons_zero]; rfl) (by rfl) (by rfl) (fun K_ hK_ => ?_); have HK_ := Lib.hid hK_; clear hK_; go_wp2_with (first | (go_at_call 35; (with_reducible refine (HP1.out _ (by repeat (first | exact Below.refl _ _ | assumption | refine bdrew1q ?_ | refine Below.trans ?_ (by assumption)))).mono ?_); rintro e y1 ⟨b81, e81, rfl, ho81, _, _, _, hb81, _, _⟩; have HO81 := Lib.hid ho81; clear ho81) | (go_at_call 35; (with_reducible refine (HP2.out b81 e81 _ y1 HO81.out (by repeat (first | exact Below.refl _ _ | assumption | refine bdrew1q ?_ | refine Below.trans ?_ (by assumption)))).mono ?_); rintro e y2 ⟨b82, e82, rfl, ho82, _, _, _, hb82, _, _⟩; have HO82 := Lib.hid ho82; clear ho82) | (go_at_call 35; (with_reducible refine (HP3.out b82 e82 _ y2 HO82.out (by repeat (first | exact Below.refl _ _ | assumption | refine bdrew1q ?_ | refine Below.trans ?_ (by assumption)))).mono ?_); rintro e y3 ⟨b83, e83, rfl, ho83, _, _, _, hb83, _, _⟩; have HO83 := Lib.hid ho83; clear ho83) | (go_at_call 35; (with_reducible refine (HP4.out b83 e83 _ y3 HO83.out (by repeat (first | exact Below.refl _ _ | assumption | refine bdrew1q ?_ | refine Below.trans ?_ (by assumption)))).mono ?_); rintro e y4 ⟨b84, e84, rfl, ho84, p84, r84, _, hb84, _, _⟩; have HO84 := Lib.hid ho84; clear ho84)); refine HK_.out _ _ (bel_of (by repeat (first | exact Below.refl _ _ | assumption | refine bdrew1q ?_ | refine balloc ?_ _ | refine bthen ?_ (by assumption) | refine Below.trans ?_ (by assumption)))) ?_; clear HK_)
        (refine tree_quiet (by simp only [List.getElem?_toArray, List.getElem?_cons_succ, List.getElem?_cons_zero]; rfl) (by rfl) (by rfl) (fun K_ hK_ => ?_); go_big_quiet_op; refine hK_ _ ?_; clear hK_ K_)
        refine tree_nil ?_
        clear hG_
        have HB84 := Lib.hid (HB72.out.trans ((show Below w72.heap.size w72 y4 from (by repeat (first | exact Below.refl _ _ | assumption | refine bdrew1q ?_ | refine Below.trans ?_ (by assumption)))).mono HB72.out.size))
        have HO84 := Lib.hid (owns_mono HO84.out HB72.out.size)
        have HPR := Lib.hid (show 8 ≤ e84 ∧ e84 ≤ maxLen from ⟨p84, r84⟩)
        have HE := Lib.hid (show k ≤ 1 → 8 = (eight R).length ∧ [] ++ beN 2 8 ++ beN 2 z1 ++ beN 2 1 ++ beN 2 z2 = eight R from fun _ => by
          rw [HRZ.out]
          exact ⟨by simp [eight, eightH, beN_length], by simp [eight, eightH]⟩)
        clear hb81 hb82 hb83 hb84 p84 r84 k0' k1' hpl' hk0 e1
        go_wp2_with fail
        have HZC := Lib.hid (fun (W : World) (hW : Below y4.heap.size y4 W) (j : Nat) (hj : j < 4) => show W.cell? ⟨w.heap.size, j, none⟩ = some (.slice none 0 0) from by
          have hall := HBR.out.trans ((HB84.out.trans (hW.mono HB84.out.size)).mono HBR.out.size)
          exact (hall.cell (p := ⟨w.heap.size, j, none⟩) HS1.out).trans (HG.out j hj))
        have HZF := Lib.hid (fun (W : World) (hW : Below y4.heap.size y4 W) (j : Nat) => show W.frozen? ⟨w.heap.size, j, none⟩ = false from by
          have hall := HBR.out.trans ((HB84.out.trans (hW.mono HB84.out.size)).mono HBR.out.size)
          exact (hall.frozen (p := ⟨w.heap.size, j, none⟩) HS1.out).trans (HGF.out j))
        have Y7 := Lib.hid (show y4.ownsRow wr.heap.size 5 1 (.slice b84 8 e84) 8 (bytesV ([] ++ beN 2 8 ++ beN 2 z1 ++ beN 2 1 ++ beN 2 z2)) from HO84.out)
        refine (head_any 2 6 k 2 6 (k : Int) rfl rfl rfl (by omega) (by omega) (by omega) y4).mono ?_
        rintro e v1 ⟨d1, f1, rfl, o1, _, _, _, hv1⟩
        have O1 := Lib.hid o1
        have U1 := Lib.hid hv1
        have V1 := Lib.hid (HX3.out.below (HB84.out.trans (hv1.mono HB84.out.size)))
        have Z1 := Lib.hid hv1.size
        clear o1 hv1
        go_wp2_with (first | (at_builtin; refine wpApp rfl _ _ 22 rfl y4.heap.size 5 (.int .u8 0) 1 1 Try.underlying22 u8_info rfl (by decide) _ 12 (bytesV (headB 2 6 k)) rfl O1.out a3 m6 c3 (bytesV x3) rfl HL3.out V1.out HN3.out (bytesV_one _) (by unfold maxLen; omega) (by omega) Z1.out ?_; intro d2 f2 v2 o2 p2 r2 _ hv2 _; have O2 := Lib.hid o2; have U2 := Lib.hid (U1.out.trans hv2); clear o2 hv2))
        have P2 := Lib.hid p2
        have R2 := Lib.hid r2
        clear p2 r2
        refine (head_any 4 6 k 4 6 (k : Int) rfl rfl rfl (by omega) (by omega) (by omega) v2).mono ?_
        rintro e v3 ⟨d3, f3, rfl, o3, _, _, _, hv3⟩
        have O3 := Lib.hid o3
        have S3 := Lib.hid hv3
        have U3 := Lib.hid (U2.out.trans (hv3.mono U2.out.size))
        have V3 := Lib.hid (HX4.out.below (HB84.out.trans (U3.out.mono HB84.out.size)))
        have Z3 := Lib.hid hv3.size
        clear o3 hv3
        have HU := Lib.hid U2.out.size
        have HW := Lib.hid HB84.out.size
        go_wp2_with (first
          | (at_builtin; refine wpApp rfl _ _ 22 rfl v2.heap.size 5 (.int .u8 0) 1 1 Try.underlying22 u8_info rfl (by decide) _ 12 (bytesV (headB 4 6 k)) rfl O3.out a4 m6 c4 (bytesV x4) rfl HL4.out V3.out HN4.out (bytesV_one _) (by unfold maxLen; omega) (by omega) Z3.out ?_; intro d4 f4 v4 o4 p4 r4 _ hv4 _; have O4 := Lib.hid o4; have S4 := Lib.hid (S3.out.trans hv4); have U4 := Lib.hid (U3.out.trans (hv4.mono HU.out)); have V4 := Lib.hid (HX6.out.below (HB84.out.trans (U4.out.mono HW.out))); have Z4 := Lib.hid S4.out.size; clear o4 hv4 p4 r4)
          | (at_builtin; refine wpApp rfl _ _ 22 rfl v2.heap.size 5 (.int .u8 0) 1 1 Try.underlying22 u8_info rfl (by decide) _ (12 + m6) (bytesV (headB 4 6 k) ++ bytesV x4) rfl O4.out a6 m2 c6 (bytesV x6) rfl HL6.out V4.out HN6.out (bytesV_one _) (by unfold maxLen; omega) (by omega) Z4.out ?_; intro d5 f5 v5 o5 p5 r5 _ hv5 _; have O5 := Lib.hid o5; have S5 := Lib.hid (S4.out.trans hv5); have U5 := Lib.hid (U4.out.trans (hv5.mono HU.out)); clear o5 hv5))
        have P5 := Lib.hid p5
        have R5 := Lib.hid r5
        clear p5 r5
        refine (head_any 6 4 k 6 4 (k : Int) rfl rfl rfl (by omega) (by omega) (by omega) v5).mono ?_
        rintro e v6 ⟨d6, f6, rfl, o6, _, _, _, hv6⟩
        have O6 := Lib.hid o6
        have T6 := Lib.hid hv6
        have U6 := Lib.hid (U5.out.trans (hv6.mono U5.out.size))
        have V6 := Lib.hid (HX5.out.below (HB84.out.trans (U6.out.mono HB84.out.size)))
        have Z6 := Lib.hid hv6.size
        clear o6 hv6
        have HU5 := Lib.hid U5.out.size
        go_wp2_with (first | (at_builtin; refine wpApp rfl _ _ 22 rfl v5.heap.size 5 (.int .u8 0) 1 1 Try.underlying22 u8_info rfl (by decide) _ 12 (bytesV (headB 6 4 k)) rfl O6.out a5 m4 c5 (bytesV x5) rfl HL5.out V6.out HN5.out (bytesV_one _) (by unfold maxLen; omega) (by omega) Z6.out ?_; intro d7 f7 v7 o7 p7 r7 _ hv7 _; have O7 := Lib.hid o7; have T7 := Lib.hid (T6.out.trans hv7); have U7 := Lib.hid (U6.out.trans (hv7.mono HU5.out)); have P7 := Lib.hid p7; have R7 := Lib.hid r7; clear o7 hv7 p7 r7; have hz0 : v7.frozen? ⟨w.heap.size, 0, none⟩ = false := HZF.out v7 U7.out 0; have hz1 : v7.frozen? ⟨w.heap.size, 1, none⟩ = false := HZF.out v7 U7.out 1; have hz2 : v7.frozen? ⟨w.heap.size, 2, none⟩ = false := HZF.out v7 U7.out 2; have hz3 : v7.frozen? ⟨w.heap.size, 3, none⟩ = false := HZF.out v7 U7.out 3; have hq0 : v7.cell? ⟨w.heap.size, 0, none⟩ = some (.slice none 0 0) := HZC.out v7 U7.out 0 (by omega); have hq1 : v7.cell? ⟨w.heap.size, 1, none⟩ = some (.slice none 0 0) := HZC.out v7 U7.out 1 (by omega); have hq2 : v7.cell? ⟨w.heap.size, 2, none⟩ = some (.slice none 0 0) := HZC.out v7 U7.out 2 (by omega); have hq3 : v7.cell? ⟨w.heap.size, 3, none⟩ = some (.slice none 0 0) := HZC.out v7 U7.out 3 (by omega)))
        have Hy4 := Lib.hid (show w.heap.size < wr.heap.size from Nat.lt_of_lt_of_le HS1.out HBR.out.size)
        have o27 := owns_below (owns_below O2.out S5.out (Nat.le_refl _)) T7.out (Nat.le_refl _)
        have o57 := owns_below O5.out T7.out (Nat.le_refl _)
        have o77 := owns_below Y7.out U7.out (Nat.le_refl _)
        have g2 : w.heap.size < y4.heap.size := Nat.lt_of_lt_of_le Hy4.out HB84.out.size
        have g5 : w.heap.size < v2.heap.size := Nat.lt_of_lt_of_le g2 U2.out.size
        have g6 : w.heap.size < v5.heap.size := Nat.lt_of_lt_of_le g2 U5.out.size
        obtain ⟨t1, t2, t3⟩ := HQ.out
        have l3 := HL3.out
        have l4 := HL4.out
        have l5 := HL5.out
        have l6 := HL6.out
        rw [bytesV_length, Nat.mul_one] at l3 l4 l5 l6
        have n2 : (two R).length = 12 + m6 := by rw [t1, List.length_append, headB_length, l3]
        have n4 : (four R).length = 12 + m6 + m2 := by rw [t2, List.length_append, List.length_append, headB_length, l4, l6]
        have n6 : (six 2 R).length = 12 + m4 := by rw [t3, List.length_append, headB_length, l5]
        have q2 : bytesV (two R) = bytesV (headB 2 6 k) ++ bytesV x3 := by rw [t1]; simp [bytesV]
        have q4 : bytesV (four R) = bytesV (headB 4 6 k) ++ bytesV x4 ++ bytesV x6 := by rw [t2]; simp [bytesV]
        have q6 : bytesV (six 2 R) = bytesV (headB 6 4 k) ++ bytesV x5 := by rw [t3]; simp [bytesV]
        refine bodyPost_ret (v := .agg #[.slice d2 (12 + m6) f2, .slice d5 (12 + m6 + m2) f5, .slice d7 (12 + m4) f7, .slice b84 8 e84]) (by simp [results, go_sem, hq0, hq1, hq2, hq3]) rfl ?_
        refine ⟨d2, d5, d7, b84, f2, f5, f7, e84, 8, by rw [n2, n4, n6], ?_, ?_, ?_, fun hk1 => ⟨(HE.out hk1).1, ?_⟩, by rw [n2]; exact P2.out, R2.out, by rw [n4]; exact P5.out, R5.out, by rw [n6]; exact P7.out, R7.out, HPR.out.1, HPR.out.2, ?_⟩
        · rw [q2]; exact own_set4 o27 g2 _ _ _ _
        · rw [q4]; exact own_set4 o57 g5 _ _ _ _
        · rw [q6]; exact own_set4 O7.out g6 _ _ _ _
        · rw [← (HE.out hk1).2]; exact own_set4 o77 Hy4.out _ _ _ _
        · exact bset (bset (bset (bset (HB0.out.trans ((HBR.out.trans ((HB84.out.trans (U7.out.mono HB84.out.size)).mono HBR.out.size)).mono HS0.out)) (Nat.le_refl _) _) (Nat.le_refl _) _) (Nat.le_refl _) _) (Nat.le_refl _) _

theorem getP_step {R : List (Nat × Nat)} (hR : Ris R) {k : Nat} {z : Nat × Nat} (hz : R[k]? = some z) (id : Int) : getP (R.take (k + 1)) id = if (z.1 : Int) = id then (z.2, true) else getP (R.take k) id := by
  have hk := (List.getElem?_eq_some_iff.1 hz).1
  unfold getP
  rw [List.take_add_one, hz, Option.toList_some, List.find?_append]
  have hno : (z.1 : Int) = id → (R.take k).find? (fun z => decide ((z.1 : Int) = id)) = none := fun he => List.find?_eq_none.2 fun y hy => by
    obtain ⟨i, hi, rfl⟩ := List.getElem_of_mem hy
    rw [List.length_take] at hi
    have := List.pairwise_iff_getElem.1 hR.1 i k (by omega) hk (by omega)
    rw [(List.getElem?_eq_some_iff.1 hz).2] at this
    simp only [List.getElem_take, decide_eq_true_eq]
    omega
  by_cases he : (z.1 : Int) = id
  · rw [if_pos he, hno he]
    simp [he]
  · rw [if_neg he, show [z].find? (fun z => decide ((z.1 : Int) = id)) = none by simp [he], Option.or_none]
theorem add0 (g j : Nat) : (⟨g, 0, none⟩ : Addr).add j = ⟨g, j, none⟩ := by
  simp only [Addr.add]
  by_cases h : j = 0 <;> simp [h]
theorem getP_at {R : List (Nat × Nat)} (hR : Ris R) {k : Nat} {z : Nat × Nat} (hz : R[k]? = some z) : getP R (z.1 : Int) = (z.2, true) := by
  have h1 := getP_step hR hz (z.1 : Int)
  rw [if_pos rfl] at h1
  unfold getP at h1 ⊢
  cases hf : (R.take (k + 1)).find? (fun y => decide ((y.1 : Int) = (z.1 : Int))) with
  | none => rw [hf] at h1; simp at h1
  | some y =>
    rw [hf] at h1
    have : R.find? (fun y => decide ((y.1 : Int) = (z.1 : Int))) = some y := by
      rw [← List.take_append_drop (k + 1) R, List.find?_append, hf]
      rfl
    rw [this]
    exact h1
theorem getP_nil (id : Int) : getP [] id = (0, false) := rfl
theorem getP_le {R : List (Nat × Nat)} (hR : Ris R) (id : Int) : (getP R id).1 ≤ 65535 := by
  unfold getP
  split
  · rename_i z hz
    exact (hR.2 z (List.mem_of_find?_eq_some hz)).2
  · exact Nat.zero_le _
/-- A row of the call's own begins a block. -/
theorem owns_sp {w : World} {base e size n c m : Nat} {a : Option Addr} {xs : List Value} (h : w.ownsRow base e size (.slice a n c) m xs) : ∀ p, a = some p → ∃ g, p = ⟨g, 0, none⟩ := by
  intro p hp
  rcases h.2 with ⟨hv, _⟩ | ⟨g, cap, cur, hv, _⟩
  · injection hv with e1 _ _
    rw [hp] at e1; cases e1
  · injection hv with e1 _ _
    rw [hp] at e1
    injection e1 with e2
    exact ⟨g, e2⟩
theorem idxF0 (a b c d : Value) (w : World) : (Instr.index 35 (.agg #[a, b, c, d]) (.int .i64 0)).run Try.prog w = .ok a w := by kernel_rfl
theorem idxF1 (a b c d : Value) (w : World) : (Instr.index 35 (.agg #[a, b, c, d]) (.int .i64 1)).run Try.prog w = .ok b w := by kernel_rfl
theorem idxF2 (a b c d : Value) (w : World) : (Instr.index 35 (.agg #[a, b, c, d]) (.int .i64 2)).run Try.prog w = .ok c w := by kernel_rfl
theorem idxF3 (a b c d : Value) (w : World) : (Instr.index 35 (.agg #[a, b, c, d]) (.int .i64 3)).run Try.prog w = .ok d w := by kernel_rfl
def FdRel (R : List (Nat × Nat)) (id : Int) (L : Nat) (w2 : World) (v5 v6 i : Value) (wr : World) : Prop :=
  ∃ k : Nat, k ≤ L ∧ i = .int .i64 (k : Nat) ∧ v5 = .int .i64 ((getP (R.take k) id).1 : Nat) ∧ v6 = .bool (getP (R.take k) id).2 ∧ Below w2.heap.size w2 wr
end Go.Proofs.Ythepejljgolcoaa
