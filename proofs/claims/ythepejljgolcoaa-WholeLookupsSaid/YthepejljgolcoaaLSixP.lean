
/- Bytes of a lookup of the form 6, and the table that they are. Conditions: pairs by rising glyphs. -/
import Derived.Test.YthepejljgolcoaaLHead
namespace Go.Proofs.Ythepejljgolcoaa
open Go.RowKit Go.Lib

theorem num_right (X Y : List UInt8) (k s : Nat) : num (X ++ Y) (X.length + k) s = num Y k s := by
  rw [← num_dropS, List.drop_left]
theorem num_left (X Y : List UInt8) (k s : Nat) (h : k + s ≤ X.length) : num (X ++ Y) k s = num X k s := by
  have := num_takeS (X ++ Y) X.length k s h
  rw [List.take_left] at this
  exact this.symm
theorem num_beN2 (z : Nat) (Z : List UInt8) (h : z ≤ 65535) : num (beN 2 z ++ Z) 0 2 = z := by
  rw [num_left _ _ _ _ (by simp [beN_length])]
  simp [beN, num2, UInt8.toNat_ofNat']
  omega
theorem num_beN4 (z : Nat) (Z : List UInt8) (h : z ≤ 65535) : num (beN 4 z ++ Z) 0 4 = z := by
  rw [num_left _ _ _ _ (by simp [beN_length])]
  simp [beN, num4, UInt8.toNat_ofNat']
  omega
theorem headB_length (f s m : Nat) : (headB f s m).length = 12 := by simp [headB, beN_length]
theorem headB_nums (f s m : Nat) (Z : List UInt8) (hf : f ≤ 65535) (hs : s ≤ 65535) (hm : m ≤ 65535) : num (headB f s m ++ Z) 0 2 = f ∧ num (headB f s m ++ Z) 2 2 = s ∧ num (headB f s m ++ Z) 4 2 = m := by
  have e : headB f s m ++ Z = beN 2 f ++ (beN 2 s ++ (beN 2 m ++ ([0, 0, 0, 0, 0, 0] ++ Z))) := by simp [headB]
  have l2 : ∀ z, (beN 2 z).length = 2 := fun z => beN_length 2 z
  refine ⟨by rw [e]; exact num_beN2 f _ hf, ?_, ?_⟩
  · have := num_right (beN 2 f) (beN 2 s ++ (beN 2 m ++ ([0, 0, 0, 0, 0, 0] ++ Z))) 0 2
    rw [l2] at this
    rw [e, this]
    exact num_beN2 s _ hs
  · have := num_right (beN 2 f) (beN 2 s ++ (beN 2 m ++ ([0, 0, 0, 0, 0, 0] ++ Z))) 2 2
    have h2 := num_right (beN 2 s) (beN 2 m ++ ([0, 0, 0, 0, 0, 0] ++ Z)) 0 2
    rw [l2] at this h2
    rw [e, this, h2]
    exact num_beN2 m _ hm
theorem flat_drop {α : Type} (f : α → List UInt8) (q : Nat) (hq : ∀ z, (f z).length = q) : ∀ (R : List α) (i : Nat) (z : α), R[i]? = some z → ∃ Z, (R.flatMap f).drop (i * q) = f z ++ Z
  | [], i, z, h => by simp at h
  | y :: R, 0, z, h => by
    simp at h
    subst h
    exact ⟨R.flatMap f, by simp⟩
  | y :: R, i + 1, z, h => by
    obtain ⟨Z, hZ⟩ := flat_drop f q hq R i z (by simpa using h)
    refine ⟨Z, ?_⟩
    rw [List.flatMap_cons, ← hZ, show (i + 1) * q = (f y).length + i * q by rw [hq, Nat.succ_mul]; omega, ← List.drop_drop, List.drop_left]
theorem flat_length {α : Type} (f : α → List UInt8) (q : Nat) (hq : ∀ z, (f z).length = q) (R : List α) : (R.flatMap f).length = R.length * q := by
  induction R with
  | nil => simp
  | cons y R ih => rw [List.flatMap_cons, List.length_append, ih, hq, List.length_cons, Nat.succ_mul]; omega
def row6 (S : Nat) (z : Nat × Nat) : List UInt8 := beN 2 z.1 ++ beN S z.2
def six (S : Nat) (R : List (Nat × Nat)) : List UInt8 := headB 6 (2 + S) R.length ++ R.flatMap (row6 S)
theorem row6_length (S : Nat) (z : Nat × Nat) : (row6 S z).length = 2 + S := by simp [row6, beN_length]
theorem six_length (S : Nat) (R : List (Nat × Nat)) : (six S R).length = 12 + R.length * (2 + S) := by
  rw [six, List.length_append, headB_length, flat_length _ (2 + S) (row6_length S)]
theorem six_row (S : Nat) (hS : S = 2 ∨ S = 4) (R : List (Nat × Nat)) (i : Nat) (z : Nat × Nat) (hz : R[i]? = some z) (h1 : z.1 ≤ 65535) (h2 : z.2 ≤ 65535) : num (six S R) (12 + i * (2 + S)) 2 = z.1 ∧ num (six S R) (12 + i * (2 + S) + 2) S = z.2 := by
  obtain ⟨Z, hZ⟩ := flat_drop (row6 S) (2 + S) (row6_length S) R i z hz
  have key : ∀ k s, num (six S R) (12 + i * (2 + S) + k) s = num (row6 S z ++ Z) k s := fun k s => by
    rw [← hZ, num_dropS]
    have := num_right (headB 6 (2 + S) R.length) (R.flatMap (row6 S)) (i * (2 + S) + k) s
    rw [headB_length] at this
    rw [six, ← this, Nat.add_assoc]
  refine ⟨?_, ?_⟩
  · have := key 0 2
    rw [Nat.add_zero] at this
    rw [this, row6, List.append_assoc]
    exact num_beN2 _ _ h1
  · rw [key 2 S, row6, List.append_assoc]
    have := num_right (beN 2 z.1) (beN S z.2 ++ Z) 0 S
    rw [beN_length] at this
    rw [this]
    rcases hS with rfl | rfl
    · exact num_beN2 _ _ h2
    · exact num_beN4 _ _ h2
theorem six_ok (S : Nat) (hS : S = 2 ∨ S = 4) (R : List (Nat × Nat)) (hR : Ris R) (hl : R.length ≤ 65535) (glyphs : Nat) : LkOk (six S R) glyphs S (rows6 (six S R) S R.length) := by
  obtain ⟨n0, n2, n4⟩ := headB_nums 6 (2 + S) R.length (R.flatMap (row6 S)) (by omega) (by omega) hl
  have hlen := six_length S R
  have e0 : num (six S R) 0 2 = 6 := n0
  have eS : skS (six S R) 2 = 2 + S := n2
  have eN : skN (six S R) 2 = R.length := n4
  have hsk : skOk (six S R) 2 (2 + S) := ⟨by omega, by rw [eS]; exact Nat.le_refl _, by rw [eN, eS, hlen]; omega⟩
  have hM : skM (six S R) 2 1 = R.length := by
    unfold skM skEnd
    rw [eN, eS]
    by_cases h0 : 0 < R.length
    · obtain ⟨z, hz⟩ : ∃ z, R[R.length - 1]? = some z := ⟨_, List.getElem?_eq_getElem (by omega)⟩
      have hz1 := hR.2 z (List.mem_of_getElem? hz)
      have hr := (six_row S hS R _ z hz (by omega) hz1.2).1
      have : allFF (rowB (six S R) (2 + 10 + (R.length - 1) * (2 + S)) (2 + S)) 1 = false := by
        have h := num_row (six S R) (12 + (R.length - 1) * (2 + S)) (2 + S) 0 2 (by omega)
        rw [Nat.add_zero, hr] at h
        simp only [allFF, List.range_one, List.all_cons, List.all_nil, Bool.and_true, Nat.mul_zero]
        rw [show (2 + 10 + (R.length - 1) * (2 + S)) = 12 + (R.length - 1) * (2 + S) from rfl, h, beq_eq_false_iff_ne]
        omega
      rw [this]
      simp
    · simp [h0]
  have hget : ∀ (i : Nat) (z : Nat × Nat), R[i]? = some z → (rows6 (six S R) S R.length)[i]? = some ⟨z.1, z.1, 12 + i * (2 + S) + 2, S, false⟩ := fun i z hz => by
    have hi := (List.getElem?_eq_some_iff.1 hz).1
    have hz1 := hR.2 z (List.mem_of_getElem? hz)
    have hr := (six_row S hS R i z hz (by omega) hz1.2).1
    simp only [rows6, List.getElem?_map, List.getElem?_range hi, Option.map_some, eS, hr]
  have hrw : LkRows (six S R) glyphs S (rows6 (six S R) S R.length) := by
    have := LkRows.six (glyphs := glyphs) (size := S) (show 2 ≤ (six S R).length by omega) e0 hsk
    rwa [hM] at this
  refine ⟨hrw, (okR_good _ _ (fun r hr => ?_)).2 ⟨fun i hi r hr => ?_, fun r hr ho => ?_⟩⟩
  · obtain ⟨i, _, rfl⟩ := List.mem_map.1 hr
    show 1 ≤ S
    omega
  · have hi' : i < R.length := by simpa [rows6] using hi
    have hz := List.getElem?_eq_getElem hi'
    rw [hget i _ hz] at hr
    cases hr
    refine ⟨Nat.le_refl _, fun q h0 hq => ?_⟩
    have hz' := List.getElem?_eq_getElem (show i - 1 < R.length by omega)
    rw [hget (i - 1) _ hz'] at hq
    cases hq
    exact List.pairwise_iff_getElem.1 hR.1 (i - 1) i (by omega) hi' (by omega)
  · obtain ⟨i, _, rfl⟩ := List.mem_map.1 hr
    cases ho
/-- The table of pairs one by one. -/
def tabP (R : List (Nat × Nat)) : List PartL × List Nat := ((List.range R.length).map fun i => ⟨(R.getD i (0, 0)).1, (R.getD i (0, 0)).1, i, 0⟩, R.map Prod.snd)
theorem six_tab (S : Nat) (hS : S = 2 ∨ S = 4) (R : List (Nat × Nat)) (hR : Ris R) (hl : R.length ≤ 65535) : tabR (six S R) (rows6 (six S R) S R.length) = tabP R := by
  suffices h : ∀ k, k ≤ R.length → tabR (six S R) ((rows6 (six S R) S R.length).take k) = ((List.range k).map fun i => ⟨(R.getD i (0, 0)).1, (R.getD i (0, 0)).1, i, 0⟩, (R.take k).map Prod.snd) by
    have := h R.length (Nat.le_refl _)
    rwa [List.take_of_length_le (by simp [rows6]), List.take_length] at this
  intro k
  induction k with
  | zero => intro _; rfl
  | succ k ih =>
    intro hk
    have hz := List.getElem?_eq_getElem (show k < R.length by omega)
    have hz1 := hR.2 _ (List.getElem_mem (show k < R.length by omega))
    obtain ⟨r1, r2⟩ := six_row S hS R k _ hz (by omega) hz1.2
    have eS : skS (six S R) 2 = 2 + S := (headB_nums 6 (2 + S) R.length (R.flatMap (row6 S)) (by omega) (by omega) hl).2.1
    have hr : (rows6 (six S R) S R.length)[k]? = some ⟨R[k].1, R[k].1, 12 + k * (2 + S) + 2, S, false⟩ := by
      simp only [rows6, List.getElem?_map, List.getElem?_range (show k < R.length by omega), Option.map_some, eS, r1]
    rw [tabR_take_succ hr, ih (by omega)]
    simp only [stepR, numsR, List.length_map, List.length_take, r2]
    rw [List.range_succ, List.map_append, List.take_add_one, hz, List.map_append, Nat.min_eq_left (by omega)]
    simp [List.getD_eq_getElem?_getD, hz]
def FarA (a b : Option Addr) : Prop := ∀ p q, a = some p → b = some q → p.block ≠ q.block
theorem owns_lt {w : World} {base e size n cap : Nat} {a : Option Addr} {xs : List Value} (h : w.ownsRow base e size (.slice a n cap) n xs) : ∀ p, a = some p → base ≤ p.block ∧ p.block < w.heap.size := by
  intro p hp
  exact h.lt p.block (by rw [hp]; rfl)
theorem owns_far {W V : World} {a2 a6 a4 : Option Addr} {base e size n cap : Nat} {xs : List Value} (h : W.ownsRow base e size (.slice a4 n cap) n xs) (hp : PutFar W a2 V a6) (hf : FarA a2 a4) : V.ownsRow base e size (.slice a4 n cap) n xs := by
  refine ⟨h.1, ?_⟩
  rcases h.2 with q | ⟨q, cap, cur, hv, hq, hh, r⟩
  · exact .inl q
  · refine .inr ⟨q, cap, cur, hv, hq, ?_, r⟩
    rw [hp.2.1 q (Array.getElem?_eq_some_iff.1 hh).1 (fun p hpa => by
      injection hv with e1 _ _
      exact hf p _ hpa e1)]
    exact hh
theorem far_put {W V : World} {a2 a6 a4 : Option Addr} (hp : PutFar W a2 V a6) (hf : FarA a2 a4) (h4 : ∀ q, a4 = some q → q.block < W.heap.size) : FarA a6 a4 := by
  intro p q h1 h2
  rcases hp.2.2 p h1 with ⟨r, hr, hr2⟩ | hge
  · rw [← hr2]; exact hf r q hr h2
  · have := h4 q h2; omega
theorem far_symm {a b : Option Addr} (h : FarA a b) : FarA b a := fun p q h1 h2 he => h q p h2 h1 he.symm
theorem Kept.ownsE {w w' : World} (h : Kept w w') {base e size n : Nat} {v : Value} {xs : List Value} (ho : w.ownsRow base e size v n xs) (hne : e ≠ 5) : w'.ownsRow base e size v n xs := by
  refine ⟨ho.1, ?_⟩
  rcases ho.2 with g | ⟨g, cap, cur, hv, hg, hh, r⟩
  · exact .inl g
  · exact .inr ⟨g, cap, cur, hv, hg, by rw [h.2 g _ _ _ hh hne]; exact hh, r⟩
/-- A row of bytes of the call's own. -/
structure Row4 where
  a : Option Addr
  n : Nat
  c : Nat
  x : List UInt8
def RowAt (b : Nat) (W : World) (r : Row4) : Prop := W.ownsRow b 5 1 (.slice r.a r.n r.c) r.n (bytesV r.x)
/-- Four rows, no two of them in one block. -/
structure Apart4 (b : Nat) (W : World) (r1 r2 r3 r4 : Row4) : Prop where
  o1 : RowAt b W r1
  o2 : RowAt b W r2
  o3 : RowAt b W r3
  o4 : RowAt b W r4
  f12 : FarA r1.a r2.a
  f13 : FarA r1.a r3.a
  f14 : FarA r1.a r4.a
  f23 : FarA r2.a r3.a
  f24 : FarA r2.a r4.a
  f34 : FarA r3.a r4.a
theorem Apart4.rot {b : Nat} {W : World} {r1 r2 r3 r4 : Row4} (h : Apart4 b W r1 r2 r3 r4) : Apart4 b W r2 r3 r4 r1 :=
  ⟨h.o2, h.o3, h.o4, h.o1, h.f23, h.f24, far_symm h.f12, h.f34, far_symm h.f13, far_symm h.f14⟩
theorem Apart4.put {b : Nat} {W V : World} {r1 r2 r3 r4 : Row4} {a' : Option Addr} {n' c' : Nat} {x' : List UInt8} (h : Apart4 b W r1 r2 r3 r4) (hp : PutFar W r1.a V a') (ho : RowAt b V ⟨a', n', c', x'⟩) : Apart4 b V ⟨a', n', c', x'⟩ r2 r3 r4 :=
  ⟨ho, owns_far h.o2 hp h.f12, owns_far h.o3 hp h.f13, owns_far h.o4 hp h.f14, far_put hp h.f12 (fun q hq => (owns_lt h.o2 q hq).2), far_put hp h.f13 (fun q hq => (owns_lt h.o3 q hq).2), far_put hp h.f14 (fun q hq => (owns_lt h.o4 q hq).2), h.f23, h.f24, h.f34⟩
theorem Apart4.below {b : Nat} {W V : World} {r1 r2 r3 r4 : Row4} (h : Apart4 b W r1 r2 r3 r4) (hb : Below W.heap.size W V) : Apart4 b V r1 r2 r3 r4 :=
  ⟨owns_below h.o1 hb (Nat.le_refl _), owns_below h.o2 hb (Nat.le_refl _), owns_below h.o3 hb (Nat.le_refl _), owns_below h.o4 hb (Nat.le_refl _), h.f12, h.f13, h.f14, h.f23, h.f24, h.f34⟩
end Go.Proofs.Ythepejljgolcoaa
