/- Joined from: PrSpec PrGet. -/
import Derived.Test.YtaladlaffglkeaaJ01
import Derived.Test.YtaladlaffglkeaaJ08
import Derived.Test.YtaladlaffglkeaaJ12
import Derived.Test.YtaladlaffglkeaaJ09
import Derived.Test.YtaladlaffglkeaaJ03
section

/- What a subtable of distances is, by its bytes: pairs in a row, or a grid; the distance of two glyphs. No condition of its own. -/
namespace Go.Proofs.Ytaladlaffglkeaa
open Go.RowKit Go.Lib

theorem mostL_from : ∀ (l : List (Int × Int)) (m : Int), m ≤ l.foldl (fun m x => max m x.2) m ∧ (∀ x ∈ l, x.2 ≤ l.foldl (fun m x => max m x.2) m) ∧ (l.foldl (fun m x => max m x.2) m = m ∨ ∃ x ∈ l, x.2 = l.foldl (fun m x => max m x.2) m)
  | [], m => ⟨Int.le_refl _, (fun x h => by cases h), .inl rfl⟩
  | y :: l, m => by
    obtain ⟨h1, h2, h3⟩ := mostL_from l (max m y.2)
    rw [List.foldl_cons]
    refine ⟨by omega, fun x hx => ?_, ?_⟩
    · rcases List.mem_cons.1 hx with rfl | hx
      · omega
      · exact h2 x hx
    · rcases h3 with h3 | ⟨x, hx, h3⟩
      · by_cases hy : m ≤ y.2
        · exact .inr ⟨y, by simp, by omega⟩
        · exact .inl (by omega)
      · exact .inr ⟨x, by simp [hx], h3⟩
/-- The greatest number that a lookup gives a glyph, 0 at least. -/
def mostR (bs : List UInt8) (rs : List RP) : Nat := (mostL (allL (tabR bs rs).2 (tabR bs rs).1)).toNat
theorem lk_most {bs : List UInt8} {rs : List RP} (hf : FitL (tabR bs rs).1 (tabR bs rs).2) (id : Int) : (lkR bs rs id).1 ≤ mostR bs rs := by
  obtain ⟨_, h2, _⟩ := mostL_from (allL (tabR bs rs).2 (tabR bs rs).1) (-1)
  by_cases hi : (lkR bs rs id).2 = true
  · obtain ⟨x, hx, rfl⟩ := allL_mem hf hi
    obtain ⟨e, e2, _⟩ := mem_allL hf hx
    have := h2 x hx
    show (getL _ _ x.1).1 ≤ _
    rw [e]
    show x.2.toNat ≤ (mostL _).toNat
    unfold mostL
    omega
  · have e : (lkR bs rs id).1 = 0 := by
      unfold lkR getL at hi ⊢
      split at hi
      · exact absurd rfl hi
      · first | rfl | (rename_i h; rw [h])
    omega
theorem most_lk {bs : List UInt8} {rs : List RP} (hf : FitL (tabR bs rs).1 (tabR bs rs).2) : mostR bs rs = 0 ∨ ∃ id, 0 ≤ id ∧ id ≤ 70000 ∧ lkR bs rs id = (mostR bs rs, true) := by
  obtain ⟨h1, _, h3⟩ := mostL_from (allL (tabR bs rs).2 (tabR bs rs).1) (-1)
  rcases h3 with h3 | ⟨x, hx, h3⟩
  · exact .inl (by unfold mostR mostL; rw [h3]; rfl)
  · obtain ⟨e, e2, e3, e4⟩ := mem_allL hf hx
    exact .inr ⟨x.1, e3, e4, by
      show getL _ _ x.1 = _
      rw [e, mostR, mostL, ← h3]⟩
theorem most_is {bs : List UInt8} {rs : List RP} (hf : FitL (tabR bs rs).1 (tabR bs rs).2) {b : Nat} (h1 : ∀ id, (lkR bs rs id).2 = true → (lkR bs rs id).1 ≤ b) (h2 : b = 0 ∨ ∃ id, (lkR bs rs id).1 = b) : b = mostR bs rs := by
  apply Nat.le_antisymm
  · rcases h2 with h2 | ⟨id, h2⟩
    · omega
    · rw [← h2]; exact lk_most hf id
  · rcases most_lk hf with h | ⟨id, _, _, h⟩
    · omega
    · have := h1 id (by rw [h])
      rwa [h] at this
/-- A number of two or four bytes, below nought, too. -/
def disV (vs : List UInt8) (S k : Nat) : Int := if S = 4 then s32 (num vs k 4) else s16 (num vs k 2)
structure GridOk (bs : List UInt8) (at_ S U glyphs : Nat) (r1 r2 : List RP) : Prop where
  len : at_ + 12 ≤ bs.length
  at1 : num bs at_ 4 ≤ bs.length
  at2 : num bs (at_ + 4) 4 ≤ bs.length
  at3 : num bs (at_ + 8) 4 ≤ bs.length
  lk1 : LkOk (bs.drop (num bs at_ 4)) glyphs S r1
  lk2 : LkOk (bs.drop (num bs (at_ + 4) 4)) glyphs S r2
  far : U * (mostR (bs.drop (num bs at_ 4)) r1 + mostR (bs.drop (num bs (at_ + 4) 4)) r2) + S ≤ bs.length - num bs (at_ + 8) 4
def distG (bs : List UInt8) (at_ S U : Nat) (r1 r2 : List RP) (l r : Int) : Int :=
  disV (bs.drop (num bs (at_ + 8) 4)) S (U * ((lkR (bs.drop (num bs at_ 4)) r1 l).1 + (lkR (bs.drop (num bs (at_ + 4) 4)) r2 r).1))
structure PListOk (bs : List UInt8) : Prop where
  len : 16 + 6 * num bs 0 4 ≤ bs.length
  rise : ∀ i, i + 1 < num bs 0 4 → num bs (16 + 6 * i) 4 < num bs (16 + 6 * (i + 1)) 4
def isPr (bs : List UInt8) (l r : Int) (i : Nat) : Bool := decide (((num bs (16 + 6 * i) 2 : Nat) : Int) = l) && decide (((num bs (18 + 6 * i) 2 : Nat) : Int) = r)
def distP (bs : List UInt8) (l r : Int) : Int := match (List.range (num bs 0 4)).find? (isPr bs l r) with
  | some i => s16 (num bs (20 + 6 * i) 2)
  | none => 0
def sizI (bs : List UInt8) : Nat := if num bs 0 4 % 2 = 1 then 4 else 2
def PrOk (bs : List UInt8) (kind : Int) (glyphs : Nat) (r1 r2 : List RP) : Prop :=
  (kind = 0 ∧ PListOk bs ∧ r1 = [] ∧ r2 = []) ∨ (kind = 2 ∧ GridOk bs 4 2 1 glyphs r1 r2) ∨ (kind = 6 ∧ GridOk bs 8 (sizI bs) (sizI bs) glyphs r1 r2)
def distF (bs : List UInt8) (kind : Int) (r1 r2 : List RP) (l r : Int) : Int :=
  if kind = 0 then distP bs l r else if kind = 2 then distG bs 4 2 1 r1 r2 l r else distG bs 8 (sizI bs) (sizI bs) r1 r2 l r
theorem num4_two (bs : List UInt8) (k : Nat) : num bs k 4 = num bs k 2 * 65536 + num bs (k + 2) 2 := by
  rw [num4, num2, num2, show k + 2 + 1 = k + 3 from rfl]
  omega
/-- Keys that rise: one that is found is the only one. -/
theorem rises_lt {f : Nat → Nat} {n : Nat} (h : ∀ i, i + 1 < n → f i < f (i + 1)) : ∀ {i j : Nat}, i < j → j < n → f i < f j
  | i, 0, hij, _ => by omega
  | i, j + 1, hij, hj => by
    by_cases e : i = j
    · subst e; exact h i hj
    · exact Nat.lt_trans (rises_lt h (show i < j by omega) (by omega)) (h j hj)
theorem distP_at {bs : List UInt8} (hok : PListOk bs) {l r i : Nat} (hi : i < num bs 0 4) (hl : l ≤ 65535) (hr : r ≤ 65535) (h : num bs (16 + 6 * i) 4 = l * 65536 + r) : distP bs (l : Nat) (r : Nat) = s16 (num bs (20 + 6 * i) 2) := by
  have key : ∀ j, isPr bs (l : Nat) (r : Nat) j = true ↔ num bs (16 + 6 * j) 4 = l * 65536 + r := fun j => by
    unfold isPr
    have e := num4_two bs (16 + 6 * j)
    have b1 := num2_lt bs (16 + 6 * j)
    have b2 := num2_lt bs (16 + 6 * j + 2)
    rw [show 16 + 6 * j + 2 = 18 + 6 * j by omega] at e b2
    simp only [Bool.and_eq_true, decide_eq_true_eq]
    omega
  have hf : (List.range (num bs 0 4)).find? (isPr bs (l : Nat) (r : Nat)) = some i := by
    obtain ⟨q, hq⟩ : ∃ q, (List.range (num bs 0 4)).find? (isPr bs (l : Nat) (r : Nat)) = some q := by
      cases hc : (List.range (num bs 0 4)).find? (isPr bs (l : Nat) (r : Nat)) with
      | some q => exact ⟨q, rfl⟩
      | none =>
        have := List.find?_eq_none.1 hc i (List.mem_range.2 hi)
        exact absurd ((key i).2 h) this
    have h1 := (key q).1 (List.find?_some hq)
    have h2 := List.mem_range.1 (List.mem_of_find?_eq_some hq)
    rw [hq]
    congr 1
    rcases Nat.lt_trichotomy q i with hlt | rfl | hlt
    · have := rises_lt hok.rise hlt hi; omega
    · rfl
    · have := rises_lt hok.rise hlt h2; omega
  unfold distP
  rw [hf]
theorem distP_no {bs : List UInt8} {l r : Int} (h : ∀ i, i < num bs 0 4 → ¬ (((num bs (16 + 6 * i) 2 : Nat) : Int) = l ∧ ((num bs (18 + 6 * i) 2 : Nat) : Int) = r)) : distP bs l r = 0 := by
  have hf : (List.range (num bs 0 4)).find? (isPr bs l r) = none := List.find?_eq_none.2 fun i hi => by
    unfold isPr
    simpa using h i (List.mem_range.1 hi)
  unfold distP
  rw [hf]
end Go.Proofs.Ytaladlaffglkeaa
end
section

/- A subtable of distances in memory, and its Get. Conditions: sizes. -/
namespace Go.Proofs.Ytaladlaffglkeaa
open Go.RowKit Go.Lib

/-- Bytes in blocks from a place on. -/
structure FarH (M : Nat → Nat → Prop) (a : Option Addr) (bs : List UInt8) (w : World) : Prop where
  has : Has w a (bytesV bs)
  far : 0 < bs.length → ∀ p, a = some p → ∀ k cs t fz, w.heap[k]? = some (.cells cs t fz) → M k t → k ≠ p.block
theorem FarH.lt {M : Nat → Nat → Prop} {a : Option Addr} {bs : List UInt8} {w : World} (h : FarH M a bs w) (h0 : 0 < bs.length) : ∀ p, a = some p → p.block < w.heap.size := fun p hp => by
  obtain ⟨g, o, ha, hg, _⟩ := h.has.get (by rw [bytesV_length]; exact h0)
  rw [hp] at ha
  cases ha
  exact hg
theorem FarH.below {M : Nat → Nat → Prop} {a : Option Addr} {bs : List UInt8} {w w' : World} (h : FarH M a bs w) (hb : Below w.heap.size w w') : FarH M a bs w' :=
  ⟨h.has.below hb, fun h0 p hp k cs t fz hk hM e => by
    subst e
    rw [hb.block _ (h.lt h0 p hp)] at hk
    exact h.far h0 p hp _ cs t fz hk hM rfl⟩
theorem FarH.mono {M M' : Nat → Nat → Prop} {a : Option Addr} {bs : List UInt8} {w : World} (h : FarH M a bs w) (hM : ∀ k t, M' k t → M k t) : FarH M' a bs w := ⟨h.has, fun h0 p hp k cs t fz hk hm => h.far h0 p hp k cs t fz hk (hM k t hm)⟩
structure GrIs (M : Nat → Nat → Prop) (B gg : Nat) (bs : List UInt8) (at_ S U : Nat) (r1 r2 : List RP) (w : World) : Prop where
  is : ∃ g1 g2 f1 f2 a n c, w.heap[gg]? = some (.cells #[.pointer (some ⟨g1, 0, none⟩), .pointer (some ⟨g2, 0, none⟩), .slice (adv a c (num bs (at_ + 8) 4)) (n - num bs (at_ + 8) 4) (c - num bs (at_ + 8) 4), .int .i64 (S : Nat), .int .i64 (U : Nat)] 168 (0, 0)) ∧
    TabIs B g1 f1 (tabR (bs.drop (num bs at_ 4)) r1).1 (tabR (bs.drop (num bs at_ 4)) r1).2 w ∧ TabIs B g2 f2 (tabR (bs.drop (num bs (at_ + 4) 4)) r2).1 (tabR (bs.drop (num bs (at_ + 4) 4)) r2).2 w ∧ bs.length = n ∧ n ≤ c ∧ c ≤ maxLen ∧ FarH M a bs w
/-- A subtable in memory. -/
def PrIs (M : Nat → Nat → Prop) (B gx : Nat) (bs : List UInt8) (kind : Int) (r1 r2 : List RP) (w : World) : Prop :=
  (kind = 0 ∧ ∃ a n c, w.heap[gx]? = some (.cells #[.slice (adv a c 16) (6 * num bs 0 4) (c - 16), .pointer none] 165 (0, 0)) ∧ bs.length = n ∧ n ≤ c ∧ c ≤ maxLen ∧ FarH M a bs w) ∨
  (∃ gg v at_ S U, ((kind = 2 ∧ at_ = 4 ∧ S = 2 ∧ U = 1) ∨ (kind = 6 ∧ at_ = 8 ∧ S = sizI bs ∧ U = sizI bs)) ∧ w.heap[gx]? = some (.cells #[v, .pointer (some ⟨gg, 0, none⟩)] 165 (0, 0)) ∧ GrIs M B gg bs at_ S U r1 r2 w)
theorem GrIs.below {M : Nat → Nat → Prop} {B gg : Nat} {bs : List UInt8} {at_ S U : Nat} {r1 r2 : List RP} {w w' : World} (h : GrIs M B gg bs at_ S U r1 r2 w) (hb : Below w.heap.size w w') : GrIs M B gg bs at_ S U r1 r2 w' := by
  obtain ⟨g1, g2, f1, f2, a, n, c, h1, h2, h3, h4, h5, h6, h7⟩ := h.is
  exact ⟨g1, g2, f1, f2, a, n, c, (hb.block _ (Array.getElem?_eq_some_iff.1 h1).1).trans h1, h2.below hb, h3.below hb, h4, h5, h6, h7.below hb⟩
theorem PrIs.below {M : Nat → Nat → Prop} {B gx : Nat} {bs : List UInt8} {kind : Int} {r1 r2 : List RP} {w w' : World} (h : PrIs M B gx bs kind r1 r2 w) (hb : Below w.heap.size w w') : PrIs M B gx bs kind r1 r2 w' := by
  rcases h with ⟨h0, a, n, c, h1, h2, h3, h4, h5⟩ | ⟨gg, v, at_, S, U, h0, h1, h2⟩
  · exact .inl ⟨h0, a, n, c, (hb.block _ (Array.getElem?_eq_some_iff.1 h1).1).trans h1, h2, h3, h4, h5.below hb⟩
  · exact .inr ⟨gg, v, at_, S, U, h0, (hb.block _ (Array.getElem?_eq_some_iff.1 h1).1).trans h1, h2.below hb⟩
theorem tabMono {B B' g fmt : Nat} {ps : List PartL} {ns : List Nat} {w : World} (h : TabIs B g fmt ps ns w) (hB : B' ≤ B) : TabIs B' g fmt ps ns w := by
  obtain ⟨_, _, _, _, e0, e1, e2⟩ := h.is
  exact ⟨_, _, _, _, e0, owns_mono e1 hB, owns_mono e2 hB⟩
theorem GrIs.mono {M M' : Nat → Nat → Prop} {B B' gg : Nat} {bs : List UInt8} {at_ S U : Nat} {r1 r2 : List RP} {w : World} (h : GrIs M B gg bs at_ S U r1 r2 w) (hM : ∀ k t, M' k t → M k t) (hB : B' ≤ B) : GrIs M' B' gg bs at_ S U r1 r2 w := by
  obtain ⟨g1, g2, f1, f2, a, n, c, h1, h2, h3, h4, h5, h6, h7⟩ := h.is
  exact ⟨g1, g2, f1, f2, a, n, c, h1, tabMono h2 hB, tabMono h3 hB, h4, h5, h6, h7.mono hM⟩
theorem PrIs.mono {M M' : Nat → Nat → Prop} {B B' gx : Nat} {bs : List UInt8} {kind : Int} {r1 r2 : List RP} {w : World} (h : PrIs M B gx bs kind r1 r2 w) (hM : ∀ k t, M' k t → M k t) (hB : B' ≤ B) : PrIs M' B' gx bs kind r1 r2 w := by
  rcases h with ⟨h0, a, n, c, h1, h2, h3, h4, h5⟩ | ⟨gg, v, at_, S, U, h0, h1, h2⟩
  · exact .inl ⟨h0, a, n, c, h1, h2, h3, h4, h5.mono hM⟩
  · exact .inr ⟨gg, v, at_, S, U, h0, h1, h2.mono hM hB⟩
theorem num_dropN (bs : List UInt8) (m : Nat) : ∀ s j, num (bs.drop m) j s = num bs (m + j) s := by
  have e : ∀ k, (bs.drop m).getD k 0 = bs.getD (m + k) 0 := fun k => by simp [List.getD_eq_getElem?_getD, List.getElem?_drop]
  intro s
  induction s with
  | zero => intro j; rfl
  | succ s ih =>
    intro j
    unfold num
    rw [ih, e, Nat.add_assoc]
theorem wrap_mul6 (i : Nat) (h : 6 * i ≤ 9223372036854775807) : IntKind.i64.wrap ((i : Int) * 6) = ((6 * i : Nat) : Int) := by rw [IntWalk.i64_in _ (by omega)]; omega
set_option maxRecDepth 100000 in
set_option maxHeartbeats 800000 in
theorem keyAt_any (a : Option Addr) (n c : Nat) (vb : List UInt8) (i : Nat) (w : World) (h : Has w a (bytesV vb)) (hl : vb.length = n) (hi : 6 * i + 4 ≤ n) (hn : n ≤ c) (hc : c ≤ maxLen) :
    Calls Try.prog 125 #[.agg #[.slice a n c], .int .i64 (i : Nat)] w fun e w' => e = .returned (.int .i64 (num vb (6 * i) 4 : Nat)) ∧ Below w.heap.size w w' := by
  have hcm := hc
  unfold maxLen at hcm
  have w1 := wrap_mul6 i (by omega)
  have HU := Lib.hid (fun (z : Int) (hz : z = ((6 * i : Nat) : Int)) (W : World) (hW : Below w.heap.size w W) => u32_z a n c (6 * i) z hz vb W (h.below hW) hl hi hn hc)
  have hAC := allocC
  have hAF := allocF
  clear h hl
  go_enter Try.func125, Try.ntmps125
  go_wp2_with (go_at_call 88; (with_reducible refine (HU.out _ (by first | rfl | omega) _ (by exact blw)).mono ?_); rintro e w1 ⟨rfl, hb1⟩; have HB1 := Lib.hid (show Below w.heap.size w w1 from by exact blw); clear hb1)
  go_ret
  exact ⟨rfl, HB1.out⟩
/-- The pairs of a List. -/
def pairsB (bs : List UInt8) : List UInt8 := (bs.drop 16).take (6 * num bs 0 4)
theorem pairsB_length {bs : List UInt8} (h : 16 + 6 * num bs 0 4 ≤ bs.length) : (pairsB bs).length = 6 * num bs 0 4 := by simp [pairsB]; omega
theorem pairsB_num4 (bs : List UInt8) (i : Nat) (h : i < num bs 0 4) : num (pairsB bs) (6 * i) 4 = num bs (16 + 6 * i) 4 := num_sub bs 16 _ _ (by omega)
theorem pairsB_num2 (bs : List UInt8) (i : Nat) (h : i < num bs 0 4) : num (pairsB bs) (6 * i + 4) 2 = num bs (20 + 6 * i) 2 := by
  unfold pairsB
  rw [num_take _ _ _ (by omega), num_dropN]
  congr 1
  omega
theorem pairsB_has {M : Nat → Nat → Prop} {a : Option Addr} {bs : List UInt8} {w : World} {c : Nat} (h : FarH M a bs w) (hc : bs.length ≤ c) : Has w (adv a c 16) (bytesV (pairsB bs)) := by
  have := (h.has.adv c 16 (by simpa [bytesV] using hc)).take (6 * num bs 0 4)
  simpa [bytesV, pairsB, List.map_take, List.map_drop] using this
theorem shl16 (l : Nat) (h : l ≤ 65535) : IntKind.i64.wrap ((l : Int) * 65536) = (l : Int) * 65536 := IntWalk.i64_in _ (by omega)
theorem or16 (l r : Nat) (hl : l ≤ 65535) (hr : r ≤ 65535) : bits .or .i64 ((l : Int) * 65536) (r : Int) = ((l * 65536 + r : Nat) : Int) := by
  have := or_add l r 16 (by omega) (by omega)
  rw [show (l : Int) * 65536 = ((l * 2 ^ 16 : Nat) : Int) by omega, this]
theorem enter_ofPair1 (args : Array Value) (w : World) : (callFunc 124 args).run Try.prog w = .ok (.enter 124 args) w := by kernel_rfl
set_option maxRecDepth 100000 in
set_option maxHeartbeats 800000 in
theorem ofPair1_any (gx g0 g1 : Nat) (ap : Option Addr) (np cp : Nat) (v : Value) (vb : List UInt8) (key i : Nat) (w : World) (hx : w.heap[gx]? = some (.cells #[.slice ap np cp, v] 165 (0, 0))) (h : Has w ap (bytesV vb)) (hl : vb.length = np) (hi : 6 * i + 4 ≤ np) (hn : np ≤ cp) (hc : cp ≤ maxLen)
    (c0 : w.cell? ⟨g0, 0, none⟩ = some (.pointer (some ⟨gx, 0, none⟩))) (c1 : w.cell? ⟨g1, 0, none⟩ = some (.int .i64 (key : Nat))) :
    Calls Try.prog 124 #[.int .i64 (i : Nat), .pointer (some ⟨g0, 0, none⟩), .pointer (some ⟨g1, 0, none⟩)] w fun e w' => e = .returned (.bool (decide (key ≤ num vb (6 * i) 4))) ∧ Below w.heap.size w w' := by
  have HK := Lib.hid (fun (W : World) (hW : Below w.heap.size w W) => keyAt_any ap np cp vb i W (h.below hW) hl hi hn hc)
  have qx := cell_of_heap hx 0
  simp only [List.getElem?_toArray, List.getElem?_cons_zero] at qx
  have lx := (Array.getElem?_eq_some_iff.1 hx).1
  have l0 := cell_lt c0
  have l1 := cell_lt c1
  simp only at l0 l1
  clear h hl hx
  generalize num vb (6 * i) 4 = y at *
  have d1 : decide ((key : Int) ≤ (y : Int)) = decide (key ≤ y) := by simp
  go_enter Try.func124, Try.ntmps124
  go_wp2_with fail
  refine wp_region_tree (.step 0 (.step 1 (.step 2 (.step 3 (.step 4 (.step 6 (.step 5 (.step 7 (.step 8 .nil))))))))) (by kernel_rfl) (by kernel_rfl) (by kernel_rfl) (by kernel_rfl) (by intro _ _ d_ _ _ h_; cases d_ <;> first | exact h_ | (dsimp +zetaDelta only at h_ ⊢; exact h_)) (fun w' => ∃ p : Wld w [], w' = p.val) (wld_start _ _) ?_
  have hG_ := @wldC w
  (refine tree_quiet gtA (by rfl) (by rfl) (fun K_ hK_ => ?_); go_big_quiet_op; refine hK_ _ ?_; clear hK_ K_)
  (refine tree_quiet gtA (by rfl) (by rfl) (fun K_ hK_ => ?_); go_big_quiet_op; refine hK_ _ ?_; clear hK_ K_)
  (refine tree_quiet gtA (by rfl) (by rfl) (fun K_ hK_ => ?_); go_big_quiet_op; refine hK_ _ ?_; clear hK_ K_)
  (refine tree_quiet gtA (by rfl) (by rfl) (fun K_ hK_ => ?_); go_big_quiet_op; refine hK_ _ ?_; clear hK_ K_)
  (refine tree_quiet gtA (by rfl) (by rfl) (fun K_ hK_ => ?_); go_big_quiet_op; refine hK_ _ ?_; clear hK_ K_)
  (refine tree_quiet gtA (by rfl) (by rfl) (fun K_ hK_ => ?_); go_big_quiet_op; refine hK_ _ ?_; clear hK_ K_)
  (refine tree_run gtA (by rfl) (by rfl) (fun K_ hK_ => ?_); have HK_ := Lib.hid hK_; clear hK_; go_wp2_with ((go_at_call 125; (with_reducible refine (HK.out _ (by exact blw)).mono ?_); rintro e w1 ⟨rfl, hb1⟩; have h1c := bc hb1; have h1f := bf hb1; have h1z := hb1.size; try simp only [World.size_alloc, World.size_drew] at h1z)); refine HK_.out _ _ (wld_ofA) ?_; clear HK_)
  (refine tree_quiet gtA (by rfl) (by rfl) (fun K_ hK_ => ?_); go_big_quiet_op; refine hK_ _ ?_; clear hK_ K_)
  (refine tree_quiet gtA (by rfl) (by rfl) (fun K_ hK_ => ?_); go_big_quiet_op; refine hK_ _ ?_; clear hK_ K_)
  refine tree_nil ?_
  clear hG_
  go_wp2_with fail
  go_ret
  exact ⟨by first | rfl | (rw [d1]; rfl), blw⟩
set_option maxRecDepth 100000 in
set_option maxHeartbeats 3200000 in
theorem ofPair_any (M : Nat → Nat → Prop) (gx : Nat) (a : Option Addr) (n c : Nat) (bs : List UInt8) (l r : Int) (w : World) (hx : w.heap[gx]? = some (.cells #[.slice (adv a c 16) (6 * num bs 0 4) (c - 16), .pointer none] 165 (0, 0))) (hl : bs.length = n) (hn : n ≤ c) (hc : c ≤ maxLen) (h : FarH M a bs w) (hok : PListOk bs) :
    Calls Try.prog 75 #[.pointer (some ⟨gx, 0, none⟩), .int .i64 l, .int .i64 r] w fun e w' => e = .returned (.int .i64 (distP bs l r)) ∧ Below w.heap.size w w' := by
  have hAC := allocC
  have hAF := allocF
  by_cases hout : l < 0 ∨ 65535 < l ∨ r < 0 ∨ 65535 < r
  · have e0 : distP bs l r = 0 := distP_no fun i hi ⟨h1, h2⟩ => by
      have := num2_lt bs (16 + 6 * i)
      have := num2_lt bs (18 + 6 * i)
      omega
    rw [e0]
    clear h hok hl hx e0
    rcases Bool.eq_false_or_eq_true (decide (l < 0)) with d1 | d1 <;> rcases Bool.eq_false_or_eq_true (decide (65535 < l)) with d2 | d2 <;> rcases Bool.eq_false_or_eq_true (decide (r < 0)) with d3 | d3 <;> rcases Bool.eq_false_or_eq_true (decide (65535 < r)) with d4 | d4
    all_goals (try (exfalso; simp only [decide_eq_false_iff_not] at d1 d2 d3 d4; omega))
    all_goals clear hout
    all_goals go_enter Try.func75, Try.ntmps75
    all_goals go_wp2_with fail
    all_goals go_ret
    all_goals exact ⟨rfl, blw⟩
  obtain ⟨L, rfl⟩ : ∃ L : Nat, l = (L : Nat) := ⟨l.toNat, by omega⟩
  obtain ⟨R, rfl⟩ : ∃ R : Nat, r = (R : Nat) := ⟨r.toNat, by omega⟩
  have hL : L ≤ 65535 := by omega
  have hR : R ≤ 65535 := by omega
  have d1 : decide ((L : Int) < 0) = false := by simp
  have d2 : decide (65535 < (L : Int)) = false := by simp; omega
  have d3 : decide ((R : Int) < 0) = false := by simp
  have d4 : decide (65535 < (R : Int)) = false := by simp; omega
  have e1 := shl16 L hL
  have e2 := or16 L R hL hR
  obtain ⟨N, hN⟩ : ∃ N, N = num bs 0 4 := ⟨_, rfl⟩
  have hlen := hok.len
  have hN4 := num4_lt bs 0
  have HPH := Lib.hid (fun (W : World) (hW : Below w.heap.size w W) => (pairsB_has (c := c) h (by omega)).below hW)
  have hpl := pairsB_length hlen
  have HP4 := Lib.hid (fun i hi => pairsB_num4 bs i (by rw [← hN]; exact hi))
  have HP2 := Lib.hid (fun i hi => pairsB_num2 bs i (by rw [← hN]; exact hi))
  have HOK := Lib.hid hok
  have HNX := Lib.hid hN
  rw [← hN] at hx hlen hpl hN4
  have HPL := Lib.hid hpl
  have HX := Lib.hid hx
  have qx := cell_of_heap hx 0
  simp only [List.getElem?_toArray, List.getElem?_cons_zero] at qx
  have lx := (Array.getElem?_eq_some_iff.1 hx).1
  have HLN := Lib.hid (fun W => len_any (adv a c 16) (6 * N) (c - 16) W)
  have hdv : IntKind.i64.wrap (((6 * N : Nat) : Int).tdiv 6) = (N : Int) := by rw [Int.tdiv_eq_ediv_of_nonneg (by omega), IntWalk.i64_in _ (by omega)]; omega
  clear h hok hN hpl hx hout
  go_enter Try.func75, Try.ntmps75
  go_wp2_with fail
  obtain ⟨W, hW⟩ : ∃ W, W = (w.alloc (Obj.cells #[.pointer (some ⟨gx, 0, none⟩)] 61)).alloc (Obj.cells #[.int .i64 ((L : Int) * 65536 + (R : Int))] 3) := ⟨_, rfl⟩
  have hb : Below w.heap.size w W := by rw [hW]; exact blw
  have hz : W.heap.size = w.heap.size + 2 := by rw [hW]; simp
  have x0 : W.heap[w.heap.size]? = some (.cells #[.pointer (some ⟨gx, 0, none⟩)] 61 (0, 0)) := by rw [hW, heap_push, if_neg (by simp), heap_push, if_pos rfl]
  have x1 : W.heap[w.heap.size + 1]? = some (.cells #[.int .i64 ((L : Int) * 65536 + (R : Int))] 3 (0, 0)) := by rw [hW, heap_push, if_pos (by simp)]
  rw [← hW]
  clear hW
  have xx := (hb.block _ lx).trans HX.out
  have HB := Lib.hid hb
  have X0 := Lib.hid x0
  have X1 := Lib.hid x1
  have XX := Lib.hid xx
  have q0 := cell_of_heap x0 0
  have q1 := cell_of_heap x1 0
  have qx := cell_of_heap xx 0
  simp only [List.getElem?_toArray, List.getElem?_cons_zero] at q0 q1 qx
  have l0 : w.heap.size < W.heap.size := by omega
  have l1 : w.heap.size + 1 < W.heap.size := by omega
  have lx := (Array.getElem?_eq_some_iff.1 xx).1
  clear hb x0 x1 xx
  have hwh := HB.out.size
  refine (HLN.out W).mono ?_
  rintro e w1 ⟨rfl, hb1⟩
  have HB1 := Lib.hid (HB.out.trans (hb1.mono HB.out.size))
  have Y0 := Lib.hid ((hb1.block _ l0).trans X0.out)
  have Y1 := Lib.hid ((hb1.block _ l1).trans X1.out)
  have YX := Lib.hid ((hb1.block _ lx).trans XX.out)
  have hz1 := hb1.size
  have q0 := cell_of_heap Y0.out 0
  have q1 := cell_of_heap Y1.out 0
  have qx := cell_of_heap YX.out 0
  simp only [List.getElem?_toArray, List.getElem?_cons_zero] at q0 q1 qx
  have m0 := (Array.getElem?_eq_some_iff.1 Y0.out).1
  have m1 := (Array.getElem?_eq_some_iff.1 Y1.out).1
  have mx := (Array.getElem?_eq_some_iff.1 YX.out).1
  clear hb1
  have hkz : ((L : Int) * 65536 + (R : Int)) = ((L * 65536 + R : Nat) : Int) := by omega
  obtain ⟨K, hK⟩ : ∃ K, K = L * 65536 + R := ⟨_, rfl⟩
  rw [← hK] at hkz
  rw [hkz] at q1
  have HK := Lib.hid hK
  clear hK
  have hcall : ∀ (i k : Nat) (V : World), i < N → k < Lib.bitLen N → Below w1.heap.size w1 V → Calls Try.prog 124 (#[.int .i64 i] ++ #[.pointer (some ⟨w.heap.size, 0, none⟩), .pointer (some ⟨w.heap.size + 1, 0, none⟩)]) V fun e w' => e = .returned (.bool (decide (K ≤ num bs (16 + 6 * i) 4))) ∧ Below w1.heap.size w1 w' := fun i k V hi _ hV => by
    rw [← HP4.out i hi]
    exact (ofPair1_any gx _ _ (adv a c 16) (6 * N) (c - 16) _ (pairsB bs) K i V ((hV.block _ mx).trans YX.out) (HPH.out V (HB1.out.trans (hV.mono HB1.out.size))) HPL.out (by omega) (by omega) (by omega) ((hV.cell (p := ⟨w.heap.size, 0, none⟩) m0).trans q0) ((hV.cell (p := ⟨w.heap.size + 1, 0, none⟩) m1).trans q1)).mono fun e w' g => ⟨g.1, hV.trans (g.2.mono hV.size)⟩
  have hmono : ∀ i j, i ≤ j → j < N → decide (K ≤ num bs (16 + 6 * i) 4) = true → decide (K ≤ num bs (16 + 6 * j) 4) = true := fun i j hij hj hi => by
    rcases Nat.lt_or_ge i j with g | g
    · have := rises_lt (f := fun i => num bs (16 + 6 * i) 4) HOK.out.rise g (by rw [← HNX.out]; exact hj)
      simp only [decide_eq_true_eq] at *; omega
    · obtain rfl : i = j := by omega
      exact hi
  have HF := Lib.hid (first_any 124 #[.pointer (some ⟨w.heap.size, 0, none⟩), .pointer (some ⟨w.heap.size + 1, 0, none⟩)] N (fun i => decide (K ≤ num bs (16 + 6 * i) 4)) (fun _ V => Below w1.heap.size w1 V) w1 (by omega) hmono (Below.refl _ _) enter_ofPair1 hcall)
  clear hcall hmono
  go_wp2_with fail
  refine HF.out.mono ?_
  rintro e V ⟨r, k, hrn, hlo, hhi, _, rfl, hV⟩
  have HBV := Lib.hid (HB1.out.trans (hV.mono HB1.out.size))
  have Z0 := Lib.hid ((hV.block _ m0).trans Y0.out)
  have Z1 := Lib.hid ((hV.block _ m1).trans Y1.out)
  have ZX := Lib.hid ((hV.block _ mx).trans YX.out)
  have hzV := hV.size
  have q0 := cell_of_heap Z0.out 0
  have q1 := cell_of_heap Z1.out 0
  have qx := cell_of_heap ZX.out 0
  simp only [List.getElem?_toArray, List.getElem?_cons_zero] at q0 q1 qx
  rw [hkz] at q1
  have m0 := (Array.getElem?_eq_some_iff.1 Z0.out).1
  have m1 := (Array.getElem?_eq_some_iff.1 Z1.out).1
  have mx := (Array.getElem?_eq_some_iff.1 ZX.out).1
  have HLO := Lib.hid hlo
  have HHI := Lib.hid hhi
  clear hV hlo hhi HF
  by_cases hlt : r < N
  · have hne : ((r : Int) == (N : Int)) = false := by simp; omega
    have hge := HHI.out r (Nat.le_refl _) hlt
    simp only [decide_eq_true_eq] at hge
    have HKA := Lib.hid (fun (U : World) (hU : Below V.heap.size V U) => keyAt_any (adv a c 16) (6 * N) (c - 16) (pairsB bs) r U (HPH.out U (HBV.out.trans (hU.mono HBV.out.size))) HPL.out (by omega) (by omega) (by omega))
    rw [HP4.out r hlt] at HKA
    have H16 := Lib.hid (fun (z : Int) (hz : z = ((6 * r + 4 : Nat) : Int)) (U : World) (hU : Below V.heap.size V U) => i16_z (adv a c 16) (6 * N) (c - 16) (6 * r + 4) z hz (pairsB bs) U (HPH.out U (HBV.out.trans (hU.mono HBV.out.size))) HPL.out (by omega) (by omega) (by omega))
    rw [HP2.out r hlt] at H16
    have w6 : IntKind.i64.wrap ((r : Int) * 6) = ((6 * r : Nat) : Int) := wrap_mul6 r (by omega)
    have w7 : IntKind.i64.wrap (((6 * r : Nat) : Int) + 4) = ((6 * r + 4 : Nat) : Int) := by rw [IntWalk.i64_in _ (by omega)]; omega
    obtain ⟨y, hy⟩ : ∃ y, y = num bs (16 + 6 * r) 4 := ⟨_, rfl⟩
    rw [← hy] at HKA hge
    by_cases he : y = K
    · have HE := Lib.hid (show distP bs (L : Nat) (R : Nat) = s16 (num bs (20 + 6 * r) 2) from distP_at HOK.out (by rw [← HNX.out]; exact hlt) hL hR (by rw [← hy, he, HK.out]))
      rw [← HE.out] at H16
      subst he
      have hd : ((y : Int) != (y : Int)) = false := by simp
      clear hy
      go_wp2_with fail
      refine wp_region_tree (.step 0 (.step 1 (.step 2 (.step 3 (.step 4 (.step 5 (.step 6 (.step 7 (.step 8 (.step 10 (.step 9 (.step 11 (.step 12 .nil))))))))))))) (by kernel_rfl) (by kernel_rfl) (by kernel_rfl) (by kernel_rfl) (by intro _ _ d_ _ _ h_; cases d_ <;> first | exact h_ | (dsimp +zetaDelta only at h_ ⊢; exact h_)) (fun w' => ∃ p : Wld V [], w' = p.val) (wld_start _ _) ?_
      have hG_ := @wldC V
      (refine tree_quiet gtA (by rfl) (by rfl) (fun K_ hK_ => ?_); go_big_quiet_op; refine hK_ _ ?_; clear hK_ K_)
      (refine tree_quiet gtA (by rfl) (by rfl) (fun K_ hK_ => ?_); go_big_quiet_op; refine hK_ _ ?_; clear hK_ K_)
      (refine tree_quiet gtA (by rfl) (by rfl) (fun K_ hK_ => ?_); go_big_quiet_op; refine hK_ _ ?_; clear hK_ K_)
      (refine tree_quiet gtA (by rfl) (by rfl) (fun K_ hK_ => ?_); go_big_quiet_op; refine hK_ _ ?_; clear hK_ K_)
      (refine tree_quiet gtA (by rfl) (by rfl) (fun K_ hK_ => ?_); go_big_quiet_op; refine hK_ _ ?_; clear hK_ K_)
      (refine tree_quiet gtA (by rfl) (by rfl) (fun K_ hK_ => ?_); go_big_quiet_op; refine hK_ _ ?_; clear hK_ K_)
      (refine tree_quiet gtA (by rfl) (by rfl) (fun K_ hK_ => ?_); go_big_quiet_op; refine hK_ _ ?_; clear hK_ K_)
      (refine tree_quiet gtA (by rfl) (by rfl) (fun K_ hK_ => ?_); go_big_quiet_op; refine hK_ _ ?_; clear hK_ K_)
      (refine tree_quiet gtA (by rfl) (by rfl) (fun K_ hK_ => ?_); go_big_quiet_op; refine hK_ _ ?_; clear hK_ K_)
      (refine tree_quiet gtA (by rfl) (by rfl) (fun K_ hK_ => ?_); go_big_quiet_op; refine hK_ _ ?_; clear hK_ K_)
      (refine tree_run gtA (by rfl) (by rfl) (fun K_ hK_ => ?_); have HK_ := Lib.hid hK_; clear hK_; go_wp2_with ((go_at_call 125; (with_reducible refine (HKA.out _ (by exact blw)).mono ?_); rintro e w5 ⟨rfl, hb5⟩; have h5c := bc hb5; have h5f := bf hb5; have h5z := hb5.size; try simp only [World.size_alloc, World.size_drew] at h5z)); refine HK_.out _ _ (wld_ofA) ?_; clear HK_)
      (refine tree_quiet gtA (by rfl) (by rfl) (fun K_ hK_ => ?_); go_big_quiet_op; refine hK_ _ ?_; clear hK_ K_)
      (refine tree_quiet gtA (by rfl) (by rfl) (fun K_ hK_ => ?_); go_big_quiet_op; refine hK_ _ ?_; clear hK_ K_)
      refine tree_nil ?_
      clear hG_
      go_wp2_with (go_at_call 93; (with_reducible refine (H16.out _ (by first | rfl | omega) _ (by exact blw)).mono ?_); rintro e w9 ⟨rfl, hb9⟩)
      go_ret
      exact ⟨rfl, HBV.out.trans (Below.mono (w := V) (by exact blw) HBV.out.size)⟩
    · have hd : ((y : Int) != (K : Int)) = true := by simp; omega
      have HE := Lib.hid (show distP bs (L : Nat) (R : Nat) = 0 from distP_no fun i hi ⟨h1, h2⟩ => by
        rw [← HNX.out] at hi
        have e3 := num4_two bs (16 + 6 * i)
        rw [show 16 + 6 * i + 2 = 18 + 6 * i by omega] at e3
        have hki : num bs (16 + 6 * i) 4 = K := by rw [HK.out, e3]; omega
        rcases Nat.lt_trichotomy i r with g | g | g
        · have := HLO.out i g
          simp only [decide_eq_false_iff_not] at this; omega
        · subst g; omega
        · have := rises_lt (f := fun i => num bs (16 + 6 * i) 4) HOK.out.rise g (by rw [← HNX.out]; exact hi)
          omega)
      clear hy he
      go_wp2_with fail
      refine wp_region_tree (.step 0 (.step 1 (.step 2 (.step 3 (.step 4 (.step 5 (.step 6 (.step 7 (.step 8 (.step 10 (.step 9 (.step 11 (.step 12 .nil))))))))))))) (by kernel_rfl) (by kernel_rfl) (by kernel_rfl) (by kernel_rfl) (by intro _ _ d_ _ _ h_; cases d_ <;> first | exact h_ | (dsimp +zetaDelta only at h_ ⊢; exact h_)) (fun w' => ∃ p : Wld V [], w' = p.val) (wld_start _ _) ?_
      have hG_ := @wldC V
      (refine tree_quiet gtA (by rfl) (by rfl) (fun K_ hK_ => ?_); go_big_quiet_op; refine hK_ _ ?_; clear hK_ K_)
      (refine tree_quiet gtA (by rfl) (by rfl) (fun K_ hK_ => ?_); go_big_quiet_op; refine hK_ _ ?_; clear hK_ K_)
      (refine tree_quiet gtA (by rfl) (by rfl) (fun K_ hK_ => ?_); go_big_quiet_op; refine hK_ _ ?_; clear hK_ K_)
      (refine tree_quiet gtA (by rfl) (by rfl) (fun K_ hK_ => ?_); go_big_quiet_op; refine hK_ _ ?_; clear hK_ K_)
      (refine tree_quiet gtA (by rfl) (by rfl) (fun K_ hK_ => ?_); go_big_quiet_op; refine hK_ _ ?_; clear hK_ K_)
      (refine tree_quiet gtA (by rfl) (by rfl) (fun K_ hK_ => ?_); go_big_quiet_op; refine hK_ _ ?_; clear hK_ K_)
      (refine tree_quiet gtA (by rfl) (by rfl) (fun K_ hK_ => ?_); go_big_quiet_op; refine hK_ _ ?_; clear hK_ K_)
      (refine tree_quiet gtA (by rfl) (by rfl) (fun K_ hK_ => ?_); go_big_quiet_op; refine hK_ _ ?_; clear hK_ K_)
      (refine tree_quiet gtA (by rfl) (by rfl) (fun K_ hK_ => ?_); go_big_quiet_op; refine hK_ _ ?_; clear hK_ K_)
      (refine tree_quiet gtA (by rfl) (by rfl) (fun K_ hK_ => ?_); go_big_quiet_op; refine hK_ _ ?_; clear hK_ K_)
      (refine tree_run gtA (by rfl) (by rfl) (fun K_ hK_ => ?_); have HK_ := Lib.hid hK_; clear hK_; go_wp2_with ((go_at_call 125; (with_reducible refine (HKA.out _ (by exact blw)).mono ?_); rintro e w5 ⟨rfl, hb5⟩; have h5c := bc hb5; have h5f := bf hb5; have h5z := hb5.size; try simp only [World.size_alloc, World.size_drew] at h5z)); refine HK_.out _ _ (wld_ofA) ?_; clear HK_)
      (refine tree_quiet gtA (by rfl) (by rfl) (fun K_ hK_ => ?_); go_big_quiet_op; refine hK_ _ ?_; clear hK_ K_)
      (refine tree_quiet gtA (by rfl) (by rfl) (fun K_ hK_ => ?_); go_big_quiet_op; refine hK_ _ ?_; clear hK_ K_)
      refine tree_nil ?_
      clear hG_
      go_wp2_with fail
      go_ret
      exact ⟨by rw [HE.out]; rfl, HBV.out.trans (Below.mono (w := V) (by exact blw) HBV.out.size)⟩
  · obtain rfl : r = N := by omega
    have HE := Lib.hid (show distP bs (L : Nat) (R : Nat) = 0 from distP_no fun i hi ⟨h1, h2⟩ => by
      rw [← HNX.out] at hi
      have e3 := num4_two bs (16 + 6 * i)
      rw [show 16 + 6 * i + 2 = 18 + 6 * i by omega] at e3
      have hki : num bs (16 + 6 * i) 4 = K := by rw [HK.out, e3]; omega
      have := HLO.out i hi
      simp only [decide_eq_false_iff_not] at this; omega)
    have heq : ((r : Int) == (r : Int)) = true := by simp
    go_wp2_with fail
    refine wp_region_tree (.step 0 (.step 1 (.step 2 (.step 3 (.step 4 (.step 5 (.step 6 (.step 7 (.step 8 (.step 10 (.step 9 (.step 11 (.step 12 .nil))))))))))))) (by kernel_rfl) (by kernel_rfl) (by kernel_rfl) (by kernel_rfl) (by intro _ _ d_ _ _ h_; cases d_ <;> first | exact h_ | (dsimp +zetaDelta only at h_ ⊢; exact h_)) (fun w' => ∃ p : Wld V [], w' = p.val) (wld_start _ _) ?_
    have hG_ := @wldC V
    (refine tree_quiet gtA (by rfl) (by rfl) (fun K_ hK_ => ?_); go_big_quiet_op; refine hK_ _ ?_; clear hK_ K_)
    (refine tree_quiet gtA (by rfl) (by rfl) (fun K_ hK_ => ?_); go_big_quiet_op; refine hK_ _ ?_; clear hK_ K_)
    (refine tree_quiet gtA (by rfl) (by rfl) (fun K_ hK_ => ?_); go_big_quiet_op; refine hK_ _ ?_; clear hK_ K_)
    (refine tree_quiet gtA (by rfl) (by rfl) (fun K_ hK_ => ?_); go_big_quiet_op; refine hK_ _ ?_; clear hK_ K_)
    refine tree_skip gtA (by rfl) ?_; dsimp only [Act.put]; simp only [List.setIfInBounds_toArray, List.set_cons_succ, List.set_cons_zero]
    refine tree_skip gtA (by rfl) ?_; dsimp only [Act.put]; simp only [List.setIfInBounds_toArray, List.set_cons_succ, List.set_cons_zero]
    refine tree_skip gtA (by rfl) ?_; dsimp only [Act.put]; simp only [List.setIfInBounds_toArray, List.set_cons_succ, List.set_cons_zero]
    refine tree_skip gtA (by rfl) ?_; dsimp only [Act.put]; simp only [List.setIfInBounds_toArray, List.set_cons_succ, List.set_cons_zero]
    refine tree_skip gtA (by rfl) ?_; dsimp only [Act.put]; simp only [List.setIfInBounds_toArray, List.set_cons_succ, List.set_cons_zero]
    refine tree_skip gtA (by rfl) ?_; dsimp only [Act.put]; simp only [List.setIfInBounds_toArray, List.set_cons_succ, List.set_cons_zero]
    refine tree_skip gtA (by rfl) ?_; dsimp only [Act.put]; simp only [List.setIfInBounds_toArray, List.set_cons_succ, List.set_cons_zero]
    refine tree_skip gtA (by rfl) ?_; dsimp only [Act.put]; simp only [List.setIfInBounds_toArray, List.set_cons_succ, List.set_cons_zero]
    (refine tree_quiet gtA (by rfl) (by rfl) (fun K_ hK_ => ?_); go_big_quiet_op; refine hK_ _ ?_; clear hK_ K_)
    refine tree_nil ?_
    clear hG_
    go_wp2_with fail
    go_ret
    exact ⟨by rw [HE.out]; rfl, HBV.out.trans (Below.mono (w := V) (by exact blw) HBV.out.size)⟩
/-- The distance that a row and a column tell. -/
theorem gdist_any (M : Nat → Nat → Prop) (B gg : Nat) (bs : List UInt8) (at_ S U : Nat) (r1 r2 : List RP) (x y : Nat) (w : World) (h : GrIs M B gg bs at_ S U r1 r2 w) (hS : S = 2 ∨ S = 4) (hU : U ≤ 4) (hx : x ≤ 4294967295) (hy : y ≤ 4294967295) :
    Calls Try.prog 77 #[.pointer (some ⟨gg, 0, none⟩), .int .i64 (x : Nat), .int .i64 (y : Nat)] w fun e w' => ((U * (x + y) + S ≤ bs.length - num bs (at_ + 8) 4 ∧ e = .returned (.int .i64 (disV (bs.drop (num bs (at_ + 8) 4)) S (U * (x + y))))) ∨ (¬ U * (x + y) + S ≤ bs.length - num bs (at_ + 8) 4 ∧ e = .panicked thrown)) ∧ Below w.heap.size w w' := by
  obtain ⟨g1, g2, f1, f2, a, n, c, h1, _, _, hl, hn, hc, hf⟩ := h.is
  obtain ⟨P, hP⟩ : ∃ P, P = num bs (at_ + 8) 4 := ⟨_, rfl⟩
  rw [← hP] at h1 ⊢
  have HV := Lib.hid (fun (W : World) (hW : Below w.heap.size w W) => show Has W (adv a c P) (bytesV (bs.drop P)) from by
    have := (hf.has.adv c P (by simpa [bytesV] using (by omega : bs.length ≤ c))).below hW
    simpa [bytesV, List.map_drop] using this)
  have HLV := Lib.hid (show (bs.drop P).length = n - P by rw [List.length_drop, hl])
  have q2 := cell_of_heap h1 2
  have q3 := cell_of_heap h1 3
  have q4 := cell_of_heap h1 4
  simp only [List.getElem?_toArray, List.getElem?_cons_zero, List.getElem?_cons_succ] at q2 q3 q4
  have l1 := (Array.getElem?_eq_some_iff.1 h1).1
  obtain ⟨k, hk⟩ : ∃ k, k = U * (x + y) := ⟨_, rfl⟩
  have hk4 : k ≤ 4 * (x + y) := by rw [hk]; exact Nat.mul_le_mul_right _ hU
  have w1 : IntKind.i64.wrap ((x : Int) + (y : Int)) = ((x + y : Nat) : Int) := by rw [IntWalk.i64_in _ (by omega)]; omega
  have W2 := Lib.hid (show RowKit.wrap64 (((x : Int) + (y : Int)) * (U : Int)) = (k : Int) by
    have e : ((x : Int) + (y : Int)) * (U : Int) = (k : Int) := by rw [hk, Int.mul_comm, Int.natCast_mul, Int.natCast_add]
    rw [e, ← IntWalk.i64_left, IntWalk.i64_in _ (by omega)])
  rw [hl, ← hk]
  have hcm : n - P ≤ c - P := by omega
  have hcc : c - P ≤ maxLen := Nat.le_trans (Nat.sub_le _ _) hc
  clear h1 hf hP hk hl
  rcases hS with rfl | rfl
  · have d1 : (((2 : Nat) : Int) == 4) = false := by decide
    have HOK := Lib.hid (fun (hk : k + 2 ≤ n - P) (W : World) (hW : Below w.heap.size w W) => i16_z (adv a c P) (n - P) (c - P) k _ rfl (bs.drop P) W (HV.out W hW) HLV.out hk hcm hcc)
    have HBD := Lib.hid (fun (hk : ¬ k + 2 ≤ n - P) (W : World) => i16_bad (adv a c P) (n - P) (c - P) (k : Nat) W (by omega) hcm hcc)
    by_cases hin : k + 2 ≤ n - P
    · have HOK := Lib.hid (HOK.out hin)
      have w2 := W2.out
      go_enter Try.func77, Try.ntmps77
      go_wp2_with (go_at_call 93; (with_reducible refine (HOK.out _ (by exact blw)).mono ?_); rintro e w9 ⟨rfl, hb9⟩)
      go_ret
      exact ⟨.inl ⟨hin, by simp [disV]⟩, blw⟩
    · have HBD := Lib.hid (HBD.out hin)
      have w2 := W2.out
      go_enter Try.func77, Try.ntmps77
      go_wp2_with (go_at_call 93; (with_reducible refine (HBD.out _).mono ?_); rintro e w9 ⟨rfl, hb9⟩)
      exact ⟨rfl, .inr ⟨hin, rfl⟩, blw⟩
  · have d1 : (((4 : Nat) : Int) == 4) = true := by decide
    have HOK := Lib.hid (fun (hk : k + 4 ≤ n - P) (W : World) (hW : Below w.heap.size w W) => i32_ok (adv a c P) (n - P) (c - P) k (bs.drop P) W (HV.out W hW) HLV.out hk hcm hcc)
    have HBD := Lib.hid (fun (hk : ¬ k + 4 ≤ n - P) (W : World) => i32_bad (adv a c P) (n - P) (c - P) (k : Nat) W (by omega) hcm hcc)
    by_cases hin : k + 4 ≤ n - P
    · have HOK := Lib.hid (HOK.out hin)
      have w2 := W2.out
      go_enter Try.func77, Try.ntmps77
      go_wp2_with (go_at_call 128; (with_reducible refine (HOK.out _ (by exact blw)).mono ?_); rintro e w9 ⟨rfl, hb9⟩)
      go_ret
      exact ⟨.inl ⟨hin, by simp [disV]⟩, blw⟩
    · have HBD := Lib.hid (HBD.out hin)
      have w2 := W2.out
      go_enter Try.func77, Try.ntmps77
      go_wp2_with (go_at_call 128; (with_reducible refine (HBD.out _).mono ?_); rintro e w9 ⟨rfl, hb9⟩)
      exact ⟨rfl, .inr ⟨hin, rfl⟩, blw⟩
end Go.Proofs.Ytaladlaffglkeaa
end
