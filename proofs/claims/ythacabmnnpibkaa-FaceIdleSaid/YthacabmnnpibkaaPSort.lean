
/- slices.SortFunc of parts by their tags: a permutation, in order. Condition: the row's cells are known and may be written. -/
import Derived.Test.YthacabmnnpibkaaPart
import Derived.Test.YthacabmnnpibkaaShelf
import Derived.Test.YthacabmnnpibkaaShelfG
namespace Go.Proofs.Ythacabmnnpibkaa
open Go.RowKit Go.Shelf Go.Lib Go.Sort

theorem cb_self : ∀ a : List UInt8, compareBytes a a = 0
  | [] => rfl
  | x :: a => by simp [compareBytes, cb_self a]
theorem cb_zero : ∀ a b : List UInt8, compareBytes a b = 0 → a = b
  | [], [], _ => rfl
  | [], _ :: _, h => by simp [compareBytes] at h
  | _ :: _, [], h => by simp [compareBytes] at h
  | x :: a, y :: b, h => by
    simp only [compareBytes] at h
    by_cases h1 : x < y
    · simp [h1] at h
    · by_cases h2 : y < x
      · simp [h1, h2] at h
      · simp only [h1, h2, if_false] at h
        obtain rfl : x = y := by
          have := UInt8.le_antisymm (UInt8.not_lt.1 h2) (UInt8.not_lt.1 h1)
          exact this
        rw [cb_zero a b h]
/-- Less: by bytes. -/
def bl' (a b : List UInt8) : Bool := decide (compareBytes a b < 0)
theorem bl_cons (x y : UInt8) (a b : List UInt8) : bl' (x :: a) (y :: b) = (decide (x < y) || (x == y && bl' a b)) := by
  simp only [bl', compareBytes]
  by_cases h1 : x < y
  · simp [h1]
  · by_cases h2 : y < x
    · have : ¬ x = y := by rintro rfl; exact h1 h2
      simp [h1, h2, this]
    · have e : x = y := UInt8.le_antisymm (UInt8.not_lt.1 h2) (UInt8.not_lt.1 h1)
      subst e
      simp [h1]
theorem bl_nil (b : List UInt8) : bl' [] b = !b.isEmpty := by cases b <;> simp [bl', compareBytes]
theorem bl_nil' (a : List UInt8) : bl' a [] = false := by cases a <;> simp [bl', compareBytes]
theorem bl_trans : ∀ a b c : List UInt8, bl' a b = true → bl' b c = true → bl' a c = true
  | a, b, [], _, h => by rw [bl_nil'] at h; cases h
  | [], b, z :: c, _, _ => by simp [bl_nil]
  | x :: a, [], _, h, _ => by rw [bl_nil'] at h; cases h
  | x :: a, y :: b, z :: c, h1, h2 => by
    rw [bl_cons] at *
    simp only [Bool.or_eq_true, decide_eq_true_eq, Bool.and_eq_true, beq_iff_eq] at *
    rcases h1 with h1 | ⟨rfl, h1⟩
    · rcases h2 with h2 | ⟨rfl, h2⟩
      · exact .inl (UInt8.lt_trans h1 h2)
      · exact .inl h1
    · rcases h2 with h2 | ⟨rfl, h2⟩
      · exact .inl h2
      · exact .inr ⟨rfl, bl_trans a b c h1 h2⟩
theorem bl_ntrans : ∀ a b c : List UInt8, bl' a b = false → bl' b c = false → bl' a c = false
  | a, b, [], _, _ => bl_nil' a
  | a, [], z :: c, _, h => by simp [bl_nil] at h
  | [], y :: b, z :: c, h, _ => by simp [bl_nil] at h
  | x :: a, y :: b, z :: c, h1, h2 => by
    rw [bl_cons] at *
    simp only [Bool.or_eq_false_iff, decide_eq_false_iff_not, Bool.and_eq_false_iff, beq_eq_false_iff_ne] at *
    obtain ⟨g1, g2⟩ := h1
    obtain ⟨k1, k2⟩ := h2
    have hyx : y ≤ x := UInt8.not_lt.1 g1
    have hzy : z ≤ y := UInt8.not_lt.1 k1
    refine ⟨UInt8.not_lt.2 (UInt8.le_trans hzy hyx), ?_⟩
    by_cases e : x = z
    · subst e
      have e2 : y = x := UInt8.le_antisymm hyx hzy
      subst e2
      right
      exact bl_ntrans a b c (g2.resolve_left (fun h => h rfl)) (k2.resolve_left (fun h => h rfl))
    · exact .inl e

def cmpP (x y : PartV) : Int := compareBytes x.tag.data.toList y.tag.data.toList
instance : Inhabited PartV := ⟨⟨.empty, none, 0, 0, []⟩⟩
theorem swoP : SWO (ltOf cmpP) where
  irrefl x := by simp [ltOf, cmpP, cb_self]
  trans x y z h1 h2 := bl_trans _ _ _ h1 h2
  ntrans x y z h1 h2 := bl_ntrans _ _ _ h1 h2

set_option maxHeartbeats 1000000 in
theorem make1_any (x y : PartV) (W : World) : Calls Try.prog 31 #[.agg #[.string x.tag, .slice x.a x.n x.c], .agg #[.string y.tag, .slice y.a y.n y.c]] W fun e w' => e = .returned (.int .i64 (cmpP x y)) ∧ ∃ q os', w' = grow (W.drewN q) os' := by
  have hcon := fun W' => Try.strings_Compare x.tag y.tag W'
  unfold cmpP
  generalize compareBytes x.tag.data.toList y.tag.data.toList = r at hcon ⊢
  go_enter Try.func31, Try.ntmps31
  go_wp2_with (go_at_call 32; refine (hcon _).mono ?_; rintro e w' ⟨rfl, rfl⟩)
  go_ret
  exact ⟨rfl, 0, _, by rw [alloc_eq_grow, alloc_eq_grow, grow_grow]; rfl⟩
theorem getB {l : List Value} {i : Nat} {x : Value} (h : l[i]? = some x) : l[i]! = x := by rw [List.getElem!_eq_getElem?_getD, h]; rfl
theorem getP {d : Array PartV} {i : Nat} {p : PartV} (h : d.toList[i]? = some p) : d[i]! = p := by
  obtain ⟨h1, h2⟩ := List.getElem?_eq_some_iff.1 h
  rw [getElem!_pos d i (by simpa using h1)]
  simpa using h2
theorem add_at (g o j : Nat) : (⟨g, o, none⟩ : Addr).add j = ⟨g, o + j, none⟩ := by simp only [Addr.add]; split <;> simp_all
theorem flatK_get (ps : List PartV) (j : Nat) (h : j < ps.length * 2) : (flatK PartV.enc 2 ps.toArray)[j]! = (encAll ps)[j]! := by
  rw [get_flatK _ _ _ _ (by simpa using h)]
  obtain ⟨p, hp⟩ : ∃ p, ps[j / 2]? = some p := ⟨_, List.getElem?_eq_getElem (by omega)⟩
  obtain ⟨h1, h2⟩ := encAll_get ps (j / 2) p hp
  rw [getP (d := ps.toArray) (p := p) (by simpa using hp)]
  have hj : j % 2 = 0 ∨ j % 2 = 1 := by omega
  rcases hj with hj | hj
  · have e : j / 2 * 2 = j := by omega
    rw [e] at h1
    rw [hj, getB h1]
    rfl
  · have e : j / 2 * 2 + 1 = j := by omega
    rw [e] at h2
    rw [hj, getB h2]
    rfl
theorem holds_parts {w : World} {blk off : Nat} {ps : List PartV} (h : Has w (some ⟨blk, off, none⟩) (encAll ps)) (hf : ∀ j, j < ps.length * 2 → w.frozen? ⟨blk, off + j, none⟩ = false) : HoldsK PartV.enc 2 w blk off ps.toArray := by
  intro j hj
  rw [size_flatK] at hj
  have hj' : j < ps.length * 2 := by simpa using hj
  refine ⟨?_, hf j hj'⟩
  have hlt : j < (encAll ps).length := by rw [encAll_length]; exact hj'
  obtain ⟨p, hp, hc⟩ := h j _ (List.getElem?_eq_getElem hlt)
  cases hp
  rw [add_at] at hc
  rw [flatK_get _ _ hj', hc, getB (List.getElem?_eq_getElem hlt)]
  rfl
theorem has_parts {w : World} {blk off : Nat} {ps : List PartV} (h : HoldsK PartV.enc 2 w blk off ps.toArray) : Has w (some ⟨blk, off, none⟩) (encAll ps) := by
  intro j u hu
  refine ⟨_, rfl, ?_⟩
  have hlt : j < (encAll ps).length := (List.getElem?_eq_some_iff.1 hu).1
  have hlt' : j < ps.length * 2 := by rwa [encAll_length] at hlt
  have := (h j (by rw [size_flatK]; simpa using hlt')).1
  rw [flatK_get _ _ hlt', getB hu] at this
  rw [add_at, this]
  rfl

set_option maxHeartbeats 1000000 in
theorem sort_any (blk off cap : Nat) (ps : List PartV) (w : World) (h : Has w (some ⟨blk, off, none⟩) (encAll ps)) (hf : ∀ j, j < ps.length * 2 → w.frozen? ⟨blk, off + j, none⟩ = false) (hb : blk < w.heap.size) (hsz : ps.length < 4611686018427387904) :
    Calls Try.prog 30 #[.slice (some ⟨blk, off, none⟩) ps.length cap, .func (.func 31) #[] #[]] w fun e w' => e = .returned (.tuple #[]) ∧ ∃ rs : List PartV, rs.Perm ps ∧ (∀ (i j : Nat) (p q : PartV), i < j → rs[i]? = some p → rs[j]? = some q → bl' q.tag.data.toList p.tag.data.toList = false) ∧ Has w' (some ⟨blk, off, none⟩) (encAll rs) ∧ ∀ B, B ≤ blk → Go.RowKit.Below B w w' := by
  have eg : ∀ args w, (callFunc 31 args).run Try.prog w = .ok (.enter 31 args) w := enters_of Try.func31 (by kernel_rfl) rfl
  have hH := holds_parts h hf
  have hcon := AnyQ.slices_SortFunc Try.sortParts 2 Try.isAgg49 Try.sizeOf49 PartV.enc (fun _ => rfl) (fun x v hv => by simp [PartV.enc] at hv; rcases hv with rfl | rfl <;> rfl) cmpP swoP 31 #[] blk off cap ps.toArray w eg (fun _ _ _ _ x y => make1_any x y _) hH hb (by simpa using hsz)
  change Calls Try.prog 30 _ _ _ at hcon
  have e0 : ps.toArray.size = ps.length := by simp
  rw [e0] at hcon
  refine hcon.mono ?_
  rintro e w' ⟨rfl, d', n, os, hp, hs, rfl⟩
  have e2 : d'.size = ps.length := by simpa using hp.1
  refine ⟨rfl, d'.toList, ?_, ?_, ?_, ?_⟩
  · have := hp.2.2
    simp only [Array.toList_extract, List.extract_eq_take_drop, List.drop_zero, Nat.sub_zero] at this
    rw [List.take_of_length_le (by simp [e2]), List.take_of_length_le (by simp)] at this
    exact this
  · intro i j p q hij hi hj
    have hj' : j < ps.length := by
      have := (List.getElem?_eq_some_iff.1 hj).1
      simpa [e2] using this
    have := hs i j (Nat.zero_le _) hij hj'
    rw [getP hi, getP hj] at this
    exact this
  · have hb' : blk < (putRowK PartV.enc 2 (Sort.ahead w n) blk off d').heap.size := by simpa [putRowK, putRow, mapBlock, Sort.ahead] using hb
    have h1 := holdsK_putRowK PartV.enc 2 (Sort.ahead w n) blk off ps.toArray d' hH (by simpa using hp.1)
    have h2 := holdsK_grow PartV.enc 2 _ os blk off d' hb' h1
    have h3 : HoldsK PartV.enc 2 (sortWorldK PartV.enc 2 w blk off n d' os) blk off d'.toList.toArray := by rw [Array.toArray_toList]; exact h2
    exact has_parts h3
  · intro B hB
    have hm : Go.RowKit.Below B w (putRowK PartV.enc 2 (Sort.ahead w n) blk off d') := ⟨rfl, rfl, rfl, by simp [putRowK, putRow, mapBlock, Sort.ahead], fun k hk => by
      simp [putRowK, putRow, mapBlock, Sort.ahead, Array.getElem?_modify, show blk ≠ k by omega]⟩
    have hB' : B ≤ (putRowK PartV.enc 2 (Sort.ahead w n) blk off d').heap.size := Nat.le_trans (by omega) hm.size
    exact hm.trans ⟨rfl, rfl, rfl, by show _ ≤ (_ ++ os).size; rw [Array.size_append]; omega, fun k hk => heap_grow_old _ os (by omega)⟩
end Go.Proofs.Ythacabmnnpibkaa
