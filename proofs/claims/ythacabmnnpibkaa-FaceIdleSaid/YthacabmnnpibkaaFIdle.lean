
/- Plain's parts while bytes that don't matter are written over: what stays, and what the font says. Conditions: as the lemmas say. -/
import Derived.Test.YthacabmnnpibkaaFShort
namespace Go.Proofs.Ythacabmnnpibkaa
open Go.RowKit Go.Lib

/-- The bytes of the j-th part that matter. -/
def keepL : Nat → List Nat
  | 0 => [0, 1, 2, 3, 4, 5]
  | 1 => [12, 13, 14, 15, 18, 19]
  | _ => [34, 35]
def keepV (j : Nat) : List Value := (keepL j).map fun x => .int .i64 (x : Nat)
def withB (p : PartV) (q : List UInt8) : PartV := ⟨p.tag, p.a, p.n, p.c, q⟩
structure IdleI (B b gK : Nat) (P : Nat → PartV) (V : World) : Prop where
  row : V.ownsRow B 27 2 (.slice (some ⟨b, 0, none⟩) 3 3) 3 (encAll [P 0, P 1, P 2])
  bytes : ∃ q : Nat → List UInt8, ∀ j, j < 3 → Bytes V B (withB (P j) (q j)) ∧ ∀ x ∈ keepL j, (q j)[x]? = (P j).bs[x]?
  keep : ∀ j, j < 3 → V.ownsRow B 3 1 (.slice (some ⟨gK + j, 0, none⟩) (keepL j).length (keepL j).length) (keepL j).length (keepV j)
theorem IdleI.store {B b gK : Nat} {P : Nat → PartV} {V : World} (h : IdleI B b gK P V) (hfar : ∀ i j, i < 3 → j < 3 → i ≠ j → FarB (P i) (P j)) {j k g : Nat} (hj : j < 3) (hg : (P j).a = some ⟨g, 0, none⟩) (hk : k ∉ keepL j) (f : Nat) (hf : f ≤ 255) :
    IdleI B b gK P (V.setCell ⟨g, k, none⟩ (.int .u8 (f : Nat))) := by
  obtain ⟨q, hq⟩ := h.bytes
  have ow := (hq j hj).1.own
  have ow' : V.ownsRow B 5 1 (.slice (some ⟨g, 0, none⟩) (P j).n (P j).c) (P j).n (bytesV (q j)) := by rw [← hg]; exact ow
  obtain ⟨st, gr⟩ := ow'.stored k (.int .u8 (f : Nat))
  have hK : KeptE 5 V (V.setCell ⟨g, k, none⟩ (.int .u8 (f : Nat))) := KeptE.grown ow' gr
  have hset : (bytesV (q j)).set k (.int .u8 (f : Nat)) = bytesV ((q j).set k (UInt8.ofNat f)) := by
    unfold bytesV
    rw [List.map_set]
    congr 2
    simp
    omega
  rw [hset] at st
  refine ⟨hK.owns h.row (by decide), ⟨fun i => if i = j then (q j).set k (UInt8.ofNat f) else q i, fun i hi => ?_⟩, fun i hi => hK.owns (h.keep i hi) (by decide)⟩
  by_cases hij : i = j
  · subst hij
    obtain ⟨hb, hx⟩ := hq i hi
    simp only [if_pos]
    refine ⟨⟨?_, ?_, hb.le, hb.max, hb.nil⟩, fun x hx' => ?_⟩
    · show World.ownsRow _ B 5 1 (.slice (P i).a (P i).n (P i).c) (P i).n _
      rw [hg]; exact st
    · show ((q i).set k _).length = (P i).n
      rw [List.length_set]; exact hb.len
    · rw [List.getElem?_set_ne (fun hh : k = x => hk (by rw [hh]; exact hx'))]
      exact hx x hx'
  · simp only [if_neg hij]
    obtain ⟨hb, hx⟩ := hq i hi
    refine ⟨?_, hx⟩
    exact Bytes.grownFar (q := withB (P j) (q j)) hb ow (by show World.grownBy _ _ (Value.slice (P j).a _ _).ownBlock; rw [hg]; exact gr) (hfar i j hi hj hij)
theorem num_same4 {p q : List UInt8} {o : Nat} (h : ∀ x, o ≤ x → x < o + 4 → q[x]? = p[x]?) : num q o 4 = num p o 4 := by
  rw [num4, num4]
  simp only [List.getD_eq_getElem?_getD]
  rw [h o (by omega) (by omega), h (o + 1) (by omega) (by omega), h (o + 2) (by omega) (by omega), h (o + 3) (by omega) (by omega)]
theorem num_same2 {p q : List UInt8} {o : Nat} (h : ∀ x, o ≤ x → x < o + 2 → q[x]? = p[x]?) : num q o 2 = num p o 2 := by
  rw [num2, num2]
  simp only [List.getD_eq_getElem?_getD]
  rw [h o (by omega) (by omega), h (o + 1) (by omega) (by omega)]
theorem idle_make {B b gK : Nat} {P : Nat → PartV} {V : World} (h : IdleI B b gK P V) (t1 : (P 0).tag = sMaxp) (t2 : (P 1).tag = sHead) (t3 : (P 2).tag = sHhea) {g e m : Nat} (b1 : (P 0).bs = maxpB g) (b2 : (P 1).bs = headB e) (b3 : (P 2).bs = hheaB m) (n1 : (P 0).n = 6) (n2 : (P 1).n = 54) (n3 : (P 2).n = 36) (hg : g ≤ 65535) (he : e ≤ 65535) (hm : m ≤ 65535) :
    Calls Try.prog 12 #[.slice (some ⟨b, 0, none⟩) 3 3] V fun r w' => ∃ a' n' c' F, r = .returned (.slice a' n' c') ∧ Has w' a' (bytesV F) ∧ F.length = n' ∧ n' ≤ c' ∧ c' ≤ maxLen ∧ IsPlain F g e m ∧ Below V.heap.size V w' := by
  obtain ⟨q, hq⟩ := h.bytes
  obtain ⟨h0, k0⟩ := hq 0 (by decide)
  obtain ⟨h1, k1⟩ := hq 1 (by decide)
  obtain ⟨h2, k2⟩ := hq 2 (by decide)
  have hm' : ∀ p ∈ [withB (P 0) (q 0), withB (P 1) (q 1), withB (P 2) (q 2)], p = withB (P 0) (q 0) ∨ p = withB (P 1) (q 1) ∨ p = withB (P 2) (q 2) := fun p hp => by simpa using hp
  refine (rmake_of _ 3 3 [withB (P 0) (q 0), withB (P 1) (q 1), withB (P 2) (q 2)] V (has_of_owns h.row) rfl (Nat.le_refl _) (by decide) (by decide) (by decide) (fun p hp => ?_) (fun p hp => ?_) (plain_apart t1 t2 t3)).mono ?_
  · rcases hm' p hp with rfl | rfl | rfl
    · exact h0.ok (by show (P 0).n ≤ 100000; omega)
    · exact h1.ok (by show (P 1).n ≤ 100000; omega)
    · exact h2.ok (by show (P 2).n ≤ 100000; omega)
  · rcases hm' p hp with rfl | rfl | rfl
    · show (P 0).tag.size = 4; rw [t1]; rfl
    · show (P 1).tag.size = 4; rw [t2]; rfl
    · show (P 2).tag.size = 4; rw [t3]; rfl
  · rintro r w' ⟨a', n', c', F, rfl, hF, hFl, l1, l2, hO, hb⟩
    rw [b1] at k0
    rw [b2] at k1
    rw [b3] at k2
    have x1 := n_maxp g hg
    have x2 := n_head e he
    have x3 := n_hhea m hm
    refine ⟨a', n', c', F, rfl, hF, hFl, l1, l2, of_plain hO (p1 := withB (P 0) (q 0)) (p2 := withB (P 1) (q 1)) (p3 := withB (P 2) (q 2)) (by simp) (by simp) (by simp) t1 t2 t3 (by show 6 ≤ (P 0).n; omega) (by show 54 ≤ (P 1).n; omega) (by show 36 ≤ (P 2).n; omega) ⟨?_, ?_⟩ ⟨?_, ?_⟩ ?_, hb⟩
    · exact (num_same4 fun x _ _ => k0 x (by simp [keepL]; omega)).trans x1.1
    · exact (num_same2 fun x _ _ => k0 x (by simp [keepL]; omega)).trans x1.2
    · exact (num_same4 fun x _ _ => k1 x (by simp [keepL]; omega)).trans x2.1
    · exact (num_same2 fun x _ _ => k1 x (by simp [keepL]; omega)).trans x2.2
    · exact (num_same2 fun x _ _ => k2 x (by simp [keepL]; omega)).trans x3
theorem Bytes.form {w : World} {base : Nat} {p : PartV} (h : Bytes w base p) (hn : 0 < p.n) : ∃ g, p.a = some ⟨g, 0, none⟩ ∧ base ≤ g ∧ g < w.heap.size := by
  rcases h.own.2 with ⟨_, h0⟩ | ⟨g, cap, cur, hv, hb, hh, _⟩
  · omega
  · injection hv with e1
    exact ⟨g, e1, hb, (Array.getElem?_eq_some_iff.1 hh).1⟩
theorem idle_start {w1 w2 : World} {b : Nat} {P : Nat → PartV} (ho : w2.ownsRow w1.heap.size 27 2 (.slice (some ⟨b, 0, none⟩) 3 3) 3 (encAll [P 0, P 1, P 2])) (o0 : Bytes w2 w1.heap.size (P 0)) (o1 : Bytes w2 w1.heap.size (P 1)) (o2 : Bytes w2 w1.heap.size (P 2)) (hz : w1.heap.size ≤ w2.heap.size) :
    IdleI w1.heap.size b w2.heap.size P (((w2.alloc (.cells #[.int .i64 0, .int .i64 1, .int .i64 2, .int .i64 3, .int .i64 4, .int .i64 5] 3)).alloc (.cells #[.int .i64 12, .int .i64 13, .int .i64 14, .int .i64 15, .int .i64 18, .int .i64 19] 3)).alloc (.cells #[.int .i64 34, .int .i64 35] 3)) := by
  have b3 : ∀ o1 o2 o3, Below w2.heap.size w2 (((w2.alloc o1).alloc o2).alloc o3) := fun o1 o2 o3 => balloc (balloc (balloc (brefl w2) o1) o2) o3
  refine ⟨owns_below ho (b3 _ _ _) (Nat.le_refl _), ⟨fun j => (P j).bs, fun j hj => ⟨?_, fun x _ => rfl⟩⟩, fun j hj => ?_⟩
  · obtain rfl | rfl | rfl : j = 0 ∨ j = 1 ∨ j = 2 := by omega
    · exact o0.below (b3 _ _ _) (Nat.le_refl _)
    · exact o1.below (b3 _ _ _) (Nat.le_refl _)
    · exact o2.below (b3 _ _ _) (Nat.le_refl _)
  · obtain rfl | rfl | rfl : j = 0 ∨ j = 1 ∨ j = 2 := by omega
    · have h := World.ownsRow_lit w2 (e := 3) (size := 1) (base := w1.heap.size) #[.int .i64 0, .int .i64 1, .int .i64 2, .int .i64 3, .int .i64 4, .int .i64 5] 6 hz (by decide) rfl
      exact owns_below (owns_below h (balloc (brefl _) _) (Nat.le_refl _)) (balloc (brefl _) _) (Nat.le_refl _)
    · have h := World.ownsRow_lit (w2.alloc (.cells #[.int .i64 0, .int .i64 1, .int .i64 2, .int .i64 3, .int .i64 4, .int .i64 5] 3)) (e := 3) (size := 1) (base := w1.heap.size) #[.int .i64 12, .int .i64 13, .int .i64 14, .int .i64 15, .int .i64 18, .int .i64 19] 6 (by simp; omega) (by decide) rfl
      rw [World.size_alloc] at h
      exact owns_below h (balloc (brefl _) _) (Nat.le_refl _)
    · have h := World.ownsRow_lit ((w2.alloc (.cells #[.int .i64 0, .int .i64 1, .int .i64 2, .int .i64 3, .int .i64 4, .int .i64 5] 3)).alloc (.cells #[.int .i64 12, .int .i64 13, .int .i64 14, .int .i64 15, .int .i64 18, .int .i64 19] 3)) (e := 3) (size := 1) (base := w1.heap.size) #[.int .i64 34, .int .i64 35] 2 (by simp; omega) (by decide) rfl
      rw [World.size_alloc, World.size_alloc] at h
      exact h
theorem IdleI.cellAt {B b gK : Nat} {P : Nat → PartV} {V : World} (h : IdleI B b gK P V) {j k g : Nat} (hj : j < 3) (hg : (P j).a = some ⟨g, 0, none⟩) (hk : k < (P j).n) : ∃ v, V.cell? ⟨g, k, none⟩ = some v ∧ V.frozen? ⟨g, k, none⟩ = false := by
  obtain ⟨q, hq⟩ := h.bytes
  have ow := (hq j hj).1.own
  have ow' : V.ownsRow B 5 1 (.slice (some ⟨g, 0, none⟩) (P j).n (P j).c) (P j).n (bytesV (q j)) := by rw [← hg]; exact ow
  obtain ⟨v, hv⟩ := own_cell ow' (j := k) (by omega)
  exact ⟨v, hv, ow'.frozenAt k⟩
theorem cmp_nat (x k : Nat) : ((x : Int) == (k : Int)) = decide (x = k) := by
  rw [Bool.eq_iff_iff]
  simp
  omega
theorem keep_step {j k q x : Nat} (h : (keepL j)[q]? = some x) : decide (k ∈ (keepL j).take (q + 1)) = (decide (k ∈ (keepL j).take q) || decide (x = k)) := by
  rw [List.take_add_one, h]
  simp [eq_comm]
theorem idxK0 (a b c : Value) (w : World) : (Instr.index 37 (.agg #[a, b, c]) (.int .i64 0)).run Try.prog w = .ok a w := by kernel_rfl
theorem idxK1 (a b c : Value) (w : World) : (Instr.index 37 (.agg #[a, b, c]) (.int .i64 1)).run Try.prog w = .ok b w := by kernel_rfl
theorem idxK2 (a b c : Value) (w : World) : (Instr.index 37 (.agg #[a, b, c]) (.int .i64 2)).run Try.prog w = .ok c w := by kernel_rfl
def IdleRel (B b gK : Nat) (P : Nat → PartV) (w1 : World) (N : Nat) (i : Value) (wr : World) : Prop := ∃ k : Nat, k ≤ N ∧ i = .int .i64 (k : Nat) ∧ IdleI B b gK P wr ∧ Below B w1 wr
def OwnRel (w : World) (j k : Nat) (own m : Value) (wr : World) : Prop := ∃ q : Nat, q ≤ (keepL j).length ∧ m = .int .i64 (q : Nat) ∧ own = .bool (decide (k ∈ (keepL j).take q)) ∧ w = wr
end Go.Proofs.Ythacabmnnpibkaa
