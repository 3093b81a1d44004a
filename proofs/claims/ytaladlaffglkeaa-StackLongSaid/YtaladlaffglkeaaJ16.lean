/- Joined from: DBits DSpec KTSpec CWrite XRun XRead CEight DEnt KSwap KSpec KRead KLaw KReadW CMap CList CAsk CTake DRef DWay KRef DRun CRun CRead CSpk KRun CIdleP XBytes XLig XLong XIns XPair XGrow XPut XStay DRunG. -/
import Derived.Test.YtaladlaffglkeaaJ01
import Derived.Test.YtaladlaffglkeaaJ11
import Derived.Test.YtaladlaffglkeaaJ13
import Derived.Test.YtaladlaffglkeaaJ14
import Derived.Laws.BitsAllLaws
import Derived.Test.YtaladlaffglkeaaJ12
import Derived.Test.YtaladlaffglkeaaJ04
import Derived.Test.YtaladlaffglkeaaJ03
import Derived.Test.YtaladlaffglkeaaJ08
import Derived.Deep.WholeRow
import Derived.Maps.OwnOps
import Derived.Maps.OwnSet
section

/- Flags of an entry, as bits. Condition: numbers of two bytes. -/
namespace Go.Proofs.Ytaladlaffglkeaa
open Go.RowKit

theorem bits_and (v m : Nat) (hv : v ≤ 65535) (hm : m ≤ 65535) : bits .and .i64 (v : Int) (m : Int) = ((v &&& m : Nat) : Int) := by
  have e : (BitVec.ofInt 64 (v : Int)).toNat = v := by rw [BitVec.toNat_ofInt]; omega
  have e2 : (BitVec.ofInt 64 (m : Int)).toNat = m := by rw [BitVec.toNat_ofInt]; omega
  have h : v &&& m ≤ v := Nat.and_le_left
  simp only [bits, BitVec.toNat_and]
  show IntKind.wrap .i64 (((BitVec.ofInt 64 (v : Int)).toNat &&& (BitVec.ofInt 64 (m : Int)).toNat : Nat) : Int) = _
  rw [e, e2, IntKind.wrap_i64]
  omega
theorem nat_and_pow (v k : Nat) : v &&& 2 ^ k = if v / 2 ^ k % 2 = 1 then 2 ^ k else 0 := by
  apply Nat.eq_of_testBit_eq
  intro i
  rw [Nat.testBit_and, Nat.testBit_two_pow]
  by_cases hi : k = i
  · subst hi
    by_cases hb : v / 2 ^ k % 2 = 1
    · rw [if_pos hb, Nat.testBit_two_pow, Nat.testBit_eq_decide_div_mod_eq, hb]; simp
    · rw [if_neg hb, Nat.testBit_eq_decide_div_mod_eq]; simp [hb]
  · split
    · rw [Nat.testBit_two_pow]; simp [hi]
    · simp [hi]
theorem flag_yes (v k : Nat) (hv : v ≤ 65535) (hk : 2 ^ k ≤ 65535) (z : Int) (hz : z = ((2 ^ k : Nat) : Int)) (h : v / 2 ^ k % 2 = 1) : bits .and .i64 (v : Int) z = z := by
  subst hz
  rw [bits_and _ _ hv hk, nat_and_pow, if_pos h]
theorem flag_no (v k : Nat) (hv : v ≤ 65535) (hk : 2 ^ k ≤ 65535) (z : Int) (hz : z = ((2 ^ k : Nat) : Int)) (h : ¬ v / 2 ^ k % 2 = 1) : bits .and .i64 (v : Int) z = 0 := by
  subst hz
  rw [bits_and _ _ hv hk, nat_and_pow, if_neg h]
  rfl
end Go.Proofs.Ytaladlaffglkeaa
end
section

/- A machine on its way along a line, as a function; drive's classAt at any place. Conditions: a machine and a line in memory; sizes. -/
namespace Go.Proofs.Ytaladlaffglkeaa
open Go.RowKit Go.Lib

/-- An entry: its next state, flags, and two words. -/
abbrev Ent := Nat × Nat × Nat × Nat
def entX (vb : List UInt8) (k j : Nat) : Ent := (num vb (j * (4 + 2 * k)) 2, num vb (j * (4 + 2 * k) + 2) 2, if 0 < k then num vb (j * (4 + 2 * k) + 4) 2 else 0, if 1 < k then num vb (j * (4 + 2 * k) + 6) 2 else 0)
def entV4 (e : Ent) : Value := .agg #[.int .i64 (e.1 : Nat), .int .i64 (e.2.1 : Nat), .int .i64 (e.2.2.1 : Nat), .int .i64 (e.2.2.2 : Nat)]
theorem entX_le (vb : List UInt8) (k j : Nat) : (entX vb k j).1 ≤ 65535 ∧ (entX vb k j).2.1 ≤ 65535 ∧ (entX vb k j).2.2.1 ≤ 65535 ∧ (entX vb k j).2.2.2 ≤ 65535 := by
  unfold entX
  refine ⟨num2_lt _ _, num2_lt _ _, ?_, ?_⟩
  · dsimp only; split
    · exact num2_lt _ _
    · omega
  · dsimp only; split
    · exact num2_lt _ _
    · omega
/-- The entry of a state and a class. -/
def enM (bs : List UInt8) (k s c : Nat) : Ent := entX (bs.drop (num bs 12 4)) k (entN bs (s * num bs 0 4 + c))
/-- The class of a line's place, or of its end. -/
def clD (bs : List UInt8) (rs : List RP) (l : List (Int × Int)) (z : Nat) : Nat := match l[z]? with
  | some p => classM bs rs p.1
  | none => 0
theorem classM_less (bs : List UInt8) (rs : List RP) (id : Int) (h : 4 ≤ num bs 0 4) : classM bs rs id < num bs 0 4 := by
  unfold classM
  split
  · omega
  · simp only
    split
    · rename_i h2; exact h2.2
    · omega
theorem clD_lt (bs : List UInt8) (rs : List RP) (l : List (Int × Int)) (z : Nat) (h : 4 ≤ num bs 0 4) : clD bs rs l z < num bs 0 4 := by
  unfold clD
  split
  · exact classM_less _ _ _ h
  · omega
theorem enM_next (bs : List UInt8) (k : Nat) {glyphs : Nat} {rs : List RP} {S s c : Nat} (hok : MOk bs glyphs k rs S) (hs : s < S) (hc : c < num bs 0 4) : (enM bs k s c).1 < S := by
  have h1 : entN bs (s * num bs 0 4 + c) < needE bs S := ent_in hs hc
  have h2 : nextN bs k (entN bs (s * num bs 0 4 + c)) < needS bs k (needE bs S) := needL_lt h1
  have h3 := hok.least.closed.2
  have h4 : (enM bs k s c).1 = nextN bs k (entN bs (s * num bs 0 4 + c)) := by
    unfold enM entX nextN
    rw [num_dropS]
  omega
/-- A machine goes along a line: what becomes of it, how many steps, and the error. -/
def runD {X : Type} (cl : X → Nat → Nat) (en : Nat → Nat → Ent) (fin : X → Nat → Bool) (act : X → Nat → Ent → X × Int × Int) : Nat → X → Nat → Nat → Nat → Nat → X × Nat × Nat
  | 0, x, _, _, _, st => (x, st - 1, 4)
  | fu + 1, x, now, z, re, st =>
    let e := en now (cl x z)
    let r := act x z e
    if e.2.1 / 2 ^ 14 % 2 = 1 then (if 64 < re + 1 then (r.1, st, 4) else runD cl en fin act fu r.1 e.1 (max r.2.1 0).toNat (re + 1) (st + 1))
    else if fin x z then (r.1, st, 0) else runD cl en fin act fu r.1 e.1 (max r.2.2 0).toNat 0 (st + 1)
/-- What holds of a line at first, and stays at each step, holds of what becomes of it. -/
theorem runD_keeps {X : Type} (P : X → Prop) {cl : X → Nat → Nat} {en : Nat → Nat → Ent} {fin : X → Nat → Bool} {act : X → Nat → Ent → X × Int × Int} (hs : ∀ x z e, P x → P (act x z e).1) : ∀ fu x now z re st, P x → P (runD cl en fin act fu x now z re st).1 := by
  intro fu
  induction fu with
  | zero => intro x now z re st h; exact h
  | succ fu ih =>
    intro x now z re st h
    unfold runD
    dsimp only
    split
    · split
      · exact hs _ _ _ h
      · exact ih _ _ _ _ _ (hs _ _ _ h)
    · split
      · exact hs _ _ _ h
      · exact ih _ _ _ _ _ (hs _ _ _ h)
set_option maxRecDepth 100000 in
set_option maxHeartbeats 1600000 in
theorem classAt_z (B g : Nat) (bs : List UInt8) (k : Nat) (rs : List RP) (S : Nat) (Bl gl : Nat) (a : Option Addr) (c : Nat) (l : List (Int × Int)) (z : Nat) (hz : z ≤ 1000000000) (w : World) (h : MIs B g bs k rs S w) (hf : FitL (tabR (bs.drop (num bs 4 4)) rs).1 (tabR (bs.drop (num bs 4 4)) rs).2) (hG : GIs Bl gl a c l w) (hid : ∀ p ∈ l, -9223372036854775808 ≤ p.1 ∧ p.1 ≤ 9223372036854775807) :
    Calls Try.prog 105 #[.pointer (some ⟨g, 0, none⟩), .pointer (some ⟨gl, 0, none⟩), .int .i64 (z : Nat)] w fun e w' => e = .returned (.tuple #[.int .i64 (clD bs rs l z : Nat), .bool (decide (z < l.length))]) ∧ Below w.heap.size w w' := by
  have hAC := allocC
  have hAF := allocF
  have HAt := Lib.hid (gat_any Bl gl a c l w hG (z : Nat))
  have HM := Lib.hid h
  have HF := Lib.hid hf
  cases hl : l[z]? with
  | none =>
    have hin : inG l (z : Nat) = false := by
      have := List.getElem?_eq_none_iff.1 hl
      unfold inG
      simp
      omega
    rw [show clD bs rs l z = 0 by rw [clD, hl], show decide (z < l.length) = false by have := List.getElem?_eq_none_iff.1 hl; simp; omega]
    rw [hin, show atG l (z : Nat) = (0, 0) by rw [atG, if_neg (by rw [hin]; decide)]] at HAt
    simp only [glyphA] at HAt
    clear hl hin h hG hid hf
    go_enter Try.func105, Try.ntmps105
    go_wp2_with (go_at_call 60; (with_reducible refine HAt.out.mono ?_); rintro e w1 ⟨rfl, hb1⟩)
    go_ret2
    exact ⟨rfl, blw⟩
  | some p =>
    have hin : inG l (z : Nat) = true := inG_of hl
    have hat : atG l (z : Nat) = p := atG_of hl
    have hp := hid p (List.mem_of_getElem? hl)
    rw [show clD bs rs l z = classM bs rs p.1 by rw [clD, hl], show decide (z < l.length) = true by have := (List.getElem?_eq_some_iff.1 hl).1; simp; omega]
    rw [hin, hat] at HAt
    obtain ⟨p1, p2⟩ := p
    simp only [glyphA] at HAt hp
    have HC := Lib.hid (fun W (hW : Below w.heap.size w W) => class_any B g bs k rs S p1 W (HM.out.below hW) HF.out hp)
    clear hl hin hat h hG hid hf hp
    generalize classM bs rs p1 = C at *
    go_enter Try.func105, Try.ntmps105
    go_wp2_with (first | (go_at_call 60; (with_reducible refine HAt.out.mono ?_); rintro e w1 ⟨rfl, hb1⟩; have h1c := bc hb1; have h1f := bf hb1; have h1z := hb1.size) | (go_at_call 144; (with_reducible refine (HC.out _ (by exact blw)).mono ?_); rintro e w2 ⟨rfl, hb2⟩))
    go_ret2
    exact ⟨rfl, blw⟩
end Go.Proofs.Ytaladlaffglkeaa
end
section

/- Layer 23: what such a subtable is, as its bytes tell it, and what it makes of places, as functions; the lowest bit of a number. No condition. -/
namespace Go.Proofs.Ytaladlaffglkeaa
open Go.RowKit Go.Lib

theorem and_one_z (z : Int) : bits .and .i64 z 1 = z % 2 := by
  show IntKind.i64.wrap ((BitVec.ofInt 64 z &&& BitVec.ofInt 64 ((1 : Nat) : Int)).toNat : Int) = _
  rw [BitVec.toNat_and, BitVec.toNat_ofInt, ofInt_u64 1 (by omega), Nat.and_one_is_mod, IntKind.wrap_i64]
  omega
theorem andNot_one_z (z : Int) (h : -9223372036854775808 ≤ z ∧ z ≤ 9223372036854775807) : bits .andNot .i64 z 1 = z - z % 2 := by
  show IntKind.i64.wrap ((BitVec.ofInt 64 z &&& ~~~BitVec.ofInt 64 ((1 : Nat) : Int)).toNat : Int) = _
  rw [BitVec.toNat_and, BitVec.toNat_not, BitVec.toNat_ofInt, ofInt_u64 1 (by omega)]
  have e : 2 ^ 64 - 1 - 1 = 18446744073709551614 := by decide
  rw [e, nat_hi64_1, IntKind.wrap_i64]
  omega
/-- A value without its lowest bit. -/
def evenZ (x : Nat) : Int := s16 x - (x % 2 : Nat)
theorem s16_le (x : Nat) (h : x ≤ 65535) : -32768 ≤ s16 x ∧ s16 x ≤ 32767 := by unfold s16; split <;> omega
theorem s16_mod (x : Nat) : s16 x % 2 = ((x % 2 : Nat) : Int) := by unfold s16; split <;> omega
theorem s16_bit (x : Nat) : bits .and .i64 (s16 x) 1 = ((x % 2 : Nat) : Int) := by rw [and_one_z, s16_mod]
theorem s16_even (x : Nat) (h : x ≤ 65535) : bits .andNot .i64 (s16 x) 1 = evenZ x := by
  have := s16_le x h
  rw [andNot_one_z _ (by omega), s16_mod]
  rfl
/-- Such a subtable, as its bytes tell it: layer 23. -/
structure QOk (bs : List UInt8) (glyphs : Nat) (rs : List RP) (S : Nat) : Prop where
  mok : MOk bs glyphs 1 rs S
  l20 : 20 ≤ bs.length
  at_ : num bs 16 4 ≤ bs.length
  vals : ∀ j, j < needE bs S → (entX (bs.drop (num bs 12 4)) 1 j).2.2.1 ≠ 65535 → ∃ k, (entX (bs.drop (num bs 12 4)) 1 j).2.2.1 ≤ k ∧ num bs 16 4 + 2 * k + 2 ≤ bs.length ∧ num bs (num bs 16 4 + 2 * k) 2 % 2 = 1
theorem QOk.det {bs : List UInt8} {glyphs : Nat} {r1 r2 : List RP} {S1 S2 : Nat} (h1 : QOk bs glyphs r1 S1) (h2 : QOk bs glyphs r2 S2) : r1 = r2 ∧ S1 = S2 := h1.mok.det h2.mok
/-- From a value on they are there, up to an odd one. -/
def GoodV (vs : List UInt8) (k : Nat) : Prop := ∃ q, k ≤ q ∧ 2 * q + 2 ≤ vs.length ∧ num vs (2 * q) 2 % 2 = 1
theorem goodV_iff {bs : List UInt8} {k : Nat} (hat : num bs 16 4 ≤ bs.length) : GoodV (bs.drop (num bs 16 4)) k ↔ ∃ q, k ≤ q ∧ num bs 16 4 + 2 * q + 2 ≤ bs.length ∧ num bs (num bs 16 4 + 2 * q) 2 % 2 = 1 := by
  constructor
  · rintro ⟨q, h1, h2, h3⟩
    rw [List.length_drop] at h2
    rw [num_dropS] at h3
    exact ⟨q, h1, by omega, h3⟩
  · rintro ⟨q, h1, h2, h3⟩
    exact ⟨q, h1, by rw [List.length_drop]; omega, by rw [num_dropS]; exact h3⟩
def GoodQ (vb vs : List UInt8) (j : Nat) : Prop := ∀ i, i < j → (entX vb 1 i).2.2.1 ≠ 65535 → GoodV vs (entX vb 1 i).2.2.1
theorem GoodQ.step {vb vs : List UInt8} {j : Nat} (h : GoodQ vb vs j) (hj : (entX vb 1 j).2.2.1 ≠ 65535 → GoodV vs (entX vb 1 j).2.2.1) : GoodQ vb vs (j + 1) := by
  intro i hi hf
  by_cases e : i = j
  · subst e
    exact hj hf
  · exact h i (by omega) hf
theorem QOk.good {bs : List UInt8} {glyphs : Nat} {rs : List RP} {S : Nat} (h : QOk bs glyphs rs S) : GoodQ (bs.drop (num bs 12 4)) (bs.drop (num bs 16 4)) (needE bs S) := fun i hi hf => (goodV_iff h.at_).2 (h.vals i hi hf)
theorem QOk.of {bs : List UInt8} {glyphs : Nat} {rs : List RP} {S : Nat} (hm : MOk bs glyphs 1 rs S) (h20 : 20 ≤ bs.length) (h1 : num bs 16 4 ≤ bs.length) (hg : GoodQ (bs.drop (num bs 12 4)) (bs.drop (num bs 16 4)) (needE bs S)) : QOk bs glyphs rs S :=
  ⟨hm, h20, h1, fun j hj hf => (goodV_iff h1).1 (hg j hj hf)⟩

/-- One glyph moves, by a value. -/
def moveK (d cr : Bool) (l : List Pl) (i : Nat) (x : Nat) : List Pl := if cr then (if evenZ x = -32768 then levelP d l (i : Nat) else acrossP d l (i : Nat) (evenZ x)) else moreP l (i : Nat) (evenZ x) 0 0
theorem moveK_length (d cr : Bool) (l : List Pl) (i x : Nat) : (moveK d cr l i x).length = l.length := by
  unfold moveK
  split
  · split
    · exact levelP_length _ _ _
    · unfold acrossP
      split <;> exact moreP_length _ _ _ _ _
  · exact moreP_length _ _ _ _ _
theorem moveK_in {d cr : Bool} {l : List Pl} (h : In32 l) (i x : Nat) : In32 (moveK d cr l i x) := by
  unfold moveK
  split
  · split
    · exact levelP_in h _ _
    · unfold acrossP
      split <;> exact moreP_in h _ _ _ _
  · exact moreP_in h _ _ _ _
/-- Those that are kept move, the last one first: it stands at the list's head. -/
def moveS (vs : List UInt8) (d cr : Bool) : List Nat → List Pl → Nat → List Nat × List Pl
  | [], l, _ => ([], l)
  | i :: ks, l, n => if num vs (2 * n) 2 % 2 = 1 then (ks, moveK d cr l i (num vs (2 * n) 2)) else moveS vs d cr ks (moveK d cr l i (num vs (2 * n) 2)) (n + 1)
theorem moveS_length (vs : List UInt8) (d cr : Bool) : ∀ (ks : List Nat) (l : List Pl) (n : Nat), (moveS vs d cr ks l n).2.length = l.length ∧ (moveS vs d cr ks l n).1.length ≤ ks.length
  | [], l, n => ⟨rfl, Nat.le_refl _⟩
  | i :: ks, l, n => by
    unfold moveS
    split
    · exact ⟨moveK_length _ _ _ _ _, by simp⟩
    · obtain ⟨h1, h2⟩ := moveS_length vs d cr ks (moveK d cr l i (num vs (2 * n) 2)) (n + 1)
      exact ⟨h1.trans (moveK_length _ _ _ _ _), by simp only [List.length_cons]; omega⟩
theorem moveS_in (vs : List UInt8) (d cr : Bool) : ∀ (ks : List Nat) (l : List Pl) (n : Nat), In32 l → In32 (moveS vs d cr ks l n).2
  | [], l, n, h => h
  | i :: ks, l, n, h => by
    unfold moveS
    split
    · exact moveK_in h _ _
    · exact moveS_in vs d cr ks _ (n + 1) (moveK_in h _ _)
/-- What is kept (the last one first), and the places. -/
abbrev QX := List Nat × List Pl
def keepT (len : Nat) (ks : List Nat) (z : Nat) (F : Nat) : List Nat :=
  if z < len ∧ F / 32768 % 2 = 1 then (z :: (if F / 8192 % 2 = 1 then [] else ks)).take 8 else (if F / 8192 % 2 = 1 then [] else ks)
theorem keepT_length {len : Nat} {ks : List Nat} (z F : Nat) (h : ks.length ≤ 8) : (keepT len ks z F).length ≤ 8 := by
  unfold keepT
  split
  · exact List.length_take_le _ _
  · split
    · simp
    · exact h
def actT (vs : List UInt8) (d cr : Bool) (len : Nat) (x : QX) (z : Nat) (e : Ent) : QX × Int × Int :=
  (if e.2.2.1 = 65535 then (keepT len x.1 z e.2.1, x.2) else moveS vs d cr (keepT len x.1 z e.2.1) x.2 e.2.2.1, (z : Int), (z : Int) + 1)
theorem actT_ok {vs : List UInt8} {d cr : Bool} {len : Nat} {x : QX} (z : Nat) (e : Ent) (h : x.1.length ≤ 8) (hi : In32 x.2) : (actT vs d cr len x z e).1.1.length ≤ 8 ∧ In32 (actT vs d cr len x z e).1.2 ∧ (actT vs d cr len x z e).1.2.length = x.2.length := by
  have hk := keepT_length (len := len) z e.2.1 h
  unfold actT
  dsimp only
  split
  · exact ⟨hk, hi, rfl⟩
  · obtain ⟨h1, h2⟩ := moveS_length vs d cr (keepT len x.1 z e.2.1) x.2 e.2.2.1
    exact ⟨by omega, moveS_in _ _ _ _ _ _ hi, h1⟩
/-- What such a subtable makes of places, how many steps it takes, and the error. -/
def stackD (bs : List UInt8) (rs : List RP) (vs : List UInt8) (d cr : Bool) (gl : List (Int × Int)) (pl : List Pl) : QX × Nat × Nat :=
  runD (fun _ z => clD bs rs gl z) (enM bs 1) (fun _ z => decide (gl.length ≤ z)) (actT vs d cr gl.length) (2 * gl.length + 128) ([], pl) 0 0 0 1
theorem stackD_ok (bs : List UInt8) (rs : List RP) (vs : List UInt8) (d cr : Bool) (gl : List (Int × Int)) (pl : List Pl) (h : In32 pl) : In32 (stackD bs rs vs d cr gl pl).1.2 ∧ (stackD bs rs vs d cr gl pl).1.2.length = pl.length := by
  have := runD_keeps (fun x : QX => x.1.length ≤ 8 ∧ In32 x.2 ∧ x.2.length = pl.length) (cl := fun _ z => clD bs rs gl z) (en := enM bs 1) (fin := fun _ z => decide (gl.length ≤ z)) (act := actT vs d cr gl.length) (fun x z e hx => by
    obtain ⟨h1, h2, h3⟩ := actT_ok (vs := vs) (d := d) (cr := cr) (len := gl.length) z e hx.1 hx.2.1
    exact ⟨h1, h2, h3.trans hx.2.2⟩) (2 * gl.length + 128) ([], pl) 0 0 0 1 ⟨by simp, h, rfl⟩
  exact this.2
end Go.Proofs.Ytaladlaffglkeaa
end
section

/- The bytes of a subtable of layer 15 as its law writes them: swashlaw15.Write. Conditions: a machine's plan and lookups in memory; sizes. -/
namespace Go.Proofs.Ytaladlaffglkeaa
open Go.RowKit Go.Lib

/-- A lookup of glyphs from 0 on, in a row. -/
def vals16 (l : List Nat) : List UInt8 := l.flatMap fun x => beN 2 x
theorem vals16_length (l : List Nat) : (vals16 l).length = 2 * l.length := by
  induction l with
  | nil => rfl
  | cons x l ih => simp only [vals16, List.flatMap_cons, List.length_append, beN_length, List.length_cons] at *; omega
theorem vals16_snoc (l : List Nat) (q : Nat) (h : q < l.length) : vals16 (l.take (q + 1)) = vals16 (l.take q) ++ beN 2 (l.getD q 0) := by
  unfold vals16
  rw [List.take_add_one, List.flatMap_append, List.getElem?_eq_getElem h, List.getD_eq_getElem?_getD, List.getElem?_eq_getElem h]
  simp
theorem splice_take {α : Type} (L cs : List α) (o n : Nat) (h : o + cs.length ≤ n) (hn : n ≤ L.length) : (splice L o cs).take n = splice (L.take n) o cs := by
  unfold splice
  rw [List.take_append, List.take_append, List.take_take, List.take_take, List.length_take, Nat.min_eq_left (by omega : o ≤ L.length), Nat.min_eq_right (by omega : o ≤ n), Nat.min_eq_left (by omega : o ≤ n), List.take_of_length_le (by omega : cs.length ≤ n - o), List.drop_take, Nat.sub_sub]
/-- 'copy' into the middle of a row of the call's own. -/
theorem wpCopyRow {P : Program} {w : World} {o : Oper} {a : Act} {K : Act → World → Prop} {Q : Exit → Act → World → Prop} (d s : Operand) (dT sT : TypeId)
    (ho : o.op = .call { callee := .builtin .copy, args := #[d, s], argTypes := #[dT, sT] }) (elem : TypeId) (hu : P.underlying dT = some (.slice elem)) (hsz : (P.info? elem).map (·.size) = some 1)
    (base g n c : Nat) (xs : List Value) (hown : w.ownsRow base elem 1 (.slice (some ⟨g, 0, none⟩) n c) n xs)
    (off dLen dCap : Nat) (ad : Addr) (sLen sCap : Nat) (hd : a.eval d = .slice (some ⟨g, off, none⟩) dLen dCap) (hs : a.eval s = .slice (some ad) sLen sCap)
    (cs : List Value) (hn : cs.length = Nat.min sLen dLen * 1) (hsrc : ∀ j v, cs[j]? = some v → w.cell? (ad.add j) = some v) (hfit : off + cs.length ≤ n) (h1 : ∀ v ∈ cs, v.oneCell' = true)
    (h : ∀ w', w'.ownsRow base elem 1 (.slice (some ⟨g, 0, none⟩) n c) n (splice xs off cs) → (∀ k, k ≠ g → w'.heap[k]? = w.heap[k]?) → w'.heap.size = w.heap.size → Below g w w' → K (a.put o.dst (goInt (Nat.min sLen dLen))) w') : o.wp P a w K Q := by
  rcases hown.2 with ⟨hv, _⟩ | ⟨b, cap, cur, hv, hg, hh, hnc, hm, hcs, hx⟩
  · cases hv
  · injection hv with e1 _ e3
    injection e1 with e1
    injection e1 with e1 _ _
    subst e1 e3
    have hl : xs.length = n := by have := hown.1; omega
    refine wpCopyO d s dT sT ho elem 1 hu hsz g off dLen dCap ad sLen sCap hd hs cur elem hh cs hn hsrc (by omega) h1 fun w' g1 g2 g3 g4 => h w' ⟨?_, .inr ⟨g, c, _, rfl, hg, g1, hnc, hm, ?_, ?_⟩⟩ g2 g3 g4
    · rw [length_splice xs off cs (by omega), hl]; omega
    · rw [List.size_toArray, length_splice cur.toList off cs (by rw [Array.length_toList (xs := cur)]; omega), Array.length_toList (xs := cur), hcs]
    · rw [Nat.mul_one] at hx ⊢
      rw [← hx]
      exact splice_take _ cs off n (by omega) (by rw [Array.length_toList (xs := cur)]; omega)
theorem u8_one : (Try.prog.info? 5).map (·.size) = some 1 := by kernel_rfl
theorem owns_some {w : World} {base e size n c : Nat} {a : Option Addr} {xs : List Value} (h : w.ownsRow base e size (.slice a n c) n xs) (h0 : 0 < n) : ∃ g, a = some ⟨g, 0, none⟩ ∧ base ≤ g ∧ g < w.heap.size := by
  rcases h.2 with ⟨hv, h1⟩ | ⟨g, _, _, hv, hg, hh, _⟩
  · omega
  · injection hv with hv _ _
    exact ⟨g, hv, hg, (Array.getElem?_eq_some_iff.1 hh).1⟩
theorem bytesV_splice (X D : List UInt8) (o : Nat) : splice (bytesV X) o (bytesV D) = bytesV (splice X o D) := by
  simp [splice, bytesV, List.map_take, List.map_drop]
end Go.Proofs.Ytaladlaffglkeaa
end
section

/- A lookup's glyphs in the places of a line's: what Run of a subtable of single glyphs does. Conditions: a subtable and a line in memory; sizes. -/
namespace Go.Proofs.Ytaladlaffglkeaa
open Go.RowKit Go.Lib

end Go.Proofs.Ytaladlaffglkeaa
end
section

/- Read of a subtable of single glyphs, and what its law asks first. Conditions: bytes as the slice says. -/
namespace Go.Proofs.Ytaladlaffglkeaa
open Go.RowKit Go.Lib

end Go.Proofs.Ytaladlaffglkeaa
end
section

/- A lookup of glyphs from 0 on, in a row: what it is, and what it gives. Conditions: numbers of two bytes; no more than 65535 glyphs. -/
namespace Go.Proofs.Ytaladlaffglkeaa
open Go.RowKit Go.Lib

theorem vals16_num : ∀ (l : List Nat) (k : Nat), (∀ x ∈ l, x ≤ 65535) → k < l.length → num (vals16 l) (2 * k) 2 = l.getD k 0
  | [], k, _, h => by simp at h
  | x :: l, 0, hx, _ => by
    have := numB2 x (vals16 l) (hx x (by simp))
    simpa [vals16] using this
  | x :: l, k + 1, hx, h => by
    have e : vals16 (x :: l) = beN 2 x ++ vals16 l := rfl
    rw [e, numR (beN 2 x) (vals16 l) (2 * (k + 1)) (2 * k) 2 (by rw [beN_length]; omega), vals16_num l k (fun y hy => hx y (by simp [hy])) (by simpa using h)]
    simp
end Go.Proofs.Ytaladlaffglkeaa
end
section

/- What a plan's bytes tell of its entries' flags; entries as cells. No walk. -/
namespace Go.Proofs.Ytaladlaffglkeaa
open Go.RowKit Go.Lib

end Go.Proofs.Ytaladlaffglkeaa
end
section

/- Lookups of a subtable that changes glyphs by what stands around them, as the document has them, and what its swap does. Conditions: the lookups in memory; sizes. -/
namespace Go.Proofs.Ytaladlaffglkeaa
open Go.RowKit Go.Lib

end Go.Proofs.Ytaladlaffglkeaa
end
section

/- Such a subtable of layer 15, as its bytes tell it. No condition. -/
namespace Go.Proofs.Ytaladlaffglkeaa
open Go.RowKit Go.Lib

end Go.Proofs.Ytaladlaffglkeaa
end
section

/- The document's Read of layer 15. Conditions: bytes as the slice says; sizes. -/
namespace Go.Proofs.Ytaladlaffglkeaa
open Go.RowKit Go.Lib

end Go.Proofs.Ytaladlaffglkeaa
end
section

/- Laws for a struct of some cells: loaded, stored, made anew, in one step each. Conditions: the block is known whole. -/
namespace Go.Proofs.Ytaladlaffglkeaa
open Go.RowKit Go.Lib

end Go.Proofs.Ytaladlaffglkeaa
end
section

/- The document's Read of layer 15: of bytes that begin with a machine. Conditions: bytes as the slice says; sizes. -/
namespace Go.Proofs.Ytaladlaffglkeaa
open Go.RowKit Go.Lib

end Go.Proofs.Ytaladlaffglkeaa
end
section

/- A map of lookups by where they stand, and a row of them. Conditions: as each says. -/
namespace Go.Proofs.Ytaladlaffglkeaa
open Go.RowKit Go.Lib

end Go.Proofs.Ytaladlaffglkeaa
end
section

/- ctx.take: so many lookups whose places stand in a list. Conditions: as many bytes as the slice says; sizes. -/
namespace Go.Proofs.Ytaladlaffglkeaa
open Go.RowKit Go.Lib

end Go.Proofs.Ytaladlaffglkeaa
end
section

/- ctx.asked: how many lookups some entries ask for. Conditions: entries as their bytes tell them. -/
namespace Go.Proofs.Ytaladlaffglkeaa
open Go.RowKit Go.Lib

theorem ent_at {w : World} {a : Option Addr} {vb : List UInt8} {k n : Nat} (h : Has w a (entsV vb k n)) {j : Nat} (hj : j < n) : ∃ g o, a = some ⟨g, o, none⟩ ∧ g < w.heap.size ∧
    w.cell? ⟨g, o + j * 4, none⟩ = some (.int .i64 ((entX vb k j).1 : Nat)) ∧ w.cell? ⟨g, o + j * 4 + 1, none⟩ = some (.int .i64 ((entX vb k j).2.1 : Nat)) ∧ w.cell? ⟨g, o + j * 4 + 2, none⟩ = some (.int .i64 ((entX vb k j).2.2.1 : Nat)) ∧ w.cell? ⟨g, o + j * 4 + 3, none⟩ = some (.int .i64 ((entX vb k j).2.2.2 : Nat)) := by
  have hlen : 0 < (entsV vb k n).length := by
    have := entsV_get vb k n j 0 hj (by omega)
    rcases Nat.eq_zero_or_pos (entsV vb k n).length with h0 | h0
    · rw [List.getElem?_eq_none (by omega)] at this
      simp [entV] at this
    · exact h0
  obtain ⟨g, o, ha, hg, hx⟩ := h.get hlen
  have e0 : (entsV vb k n)[j * 4]? = some (.int .i64 ((entX vb k j).1 : Nat)) := by have := entsV_get vb k n j 0 hj (by omega); rw [Nat.add_zero] at this; exact this
  have e1 : (entsV vb k n)[j * 4 + 1]? = some (.int .i64 ((entX vb k j).2.1 : Nat)) := entsV_get vb k n j 1 hj (by omega)
  have e2 : (entsV vb k n)[j * 4 + 2]? = some (.int .i64 ((entX vb k j).2.2.1 : Nat)) := entsV_get vb k n j 2 hj (by omega)
  have e3 : (entsV vb k n)[j * 4 + 3]? = some (.int .i64 ((entX vb k j).2.2.2 : Nat)) := entsV_get vb k n j 3 hj (by omega)
  exact ⟨g, o, ha, hg, hx _ _ e0, by rw [Nat.add_assoc]; exact hx _ _ e1, by rw [Nat.add_assoc]; exact hx _ _ e2, by rw [Nat.add_assoc]; exact hx _ _ e3⟩
end Go.Proofs.Ytaladlaffglkeaa
end
section

/- ctx.Take: such a subtable that a View begins with, or it throws. Conditions: as many bytes as the slice says. -/
namespace Go.Proofs.Ytaladlaffglkeaa
open Go.RowKit Go.Lib

end Go.Proofs.Ytaladlaffglkeaa
end
section

/- The document's Begin, Next and Go: where a machine is on its way. Conditions: a machine in memory; sizes. -/
namespace Go.Proofs.Ytaladlaffglkeaa
open Go.RowKit Go.Lib

end Go.Proofs.Ytaladlaffglkeaa
end
section

/- The document's way of a machine, told of the machine along a line as a function; seven stores into one block. No condition. -/
namespace Go.Proofs.Ytaladlaffglkeaa
open Go.RowKit Go.Lib

end Go.Proofs.Ytaladlaffglkeaa
end
section

/- The document's Run of layer 15. Conditions: a machine and lookups in memory; sizes. -/
namespace Go.Proofs.Ytaladlaffglkeaa
open Go.RowKit Go.Lib

def IdsOk (l : List (Int × Int)) : Prop := ∀ p ∈ l, -9223372036854775808 ≤ p.1 ∧ p.1 ≤ 9223372036854775807
end Go.Proofs.Ytaladlaffglkeaa
end
section

/- drive.Run, with an act made by Plain: a machine goes along a line, whatever the act does by its own contract. Conditions: a machine and a line in memory; the act keeps the machine, and what else is known; sizes. -/
namespace Go.Proofs.Ytaladlaffglkeaa
open Go.RowKit Go.Lib

theorem fn_nilA (fn : Fn) (first cap : Array Value) (w : World) : (binOp .eql 135 (.func fn first cap) .nilFunc).run Try.prog w = .ok (.bool false) w := by kernel_rfl
set_option maxRecDepth 100000 in
set_option maxHeartbeats 3200000 in
theorem drunE_any {X : Type} (line : X → List (Int × Int)) (Inv : X → World → Prop) (act : X → Nat → Ent → X × Int × Int) (own : Nat → Nat → Prop) (K Bm g : Nat) (bs : List UInt8) (k glyphs : Nat) (rs : List RP) (S B Bl gl gx : Nat) (x0 : X) (w : World)
    (hM : MIs Bm g bs k rs S w) (hS : S ≤ 65536) (hok : MOk bs glyphs k rs S) (hg1 : 1 ≤ glyphs) (hfit : FitL (tabR (bs.drop (num bs 4 4)) rs).1 (tabR (bs.drop (num bs 4 4)) rs).2) (hown : notM own) (hB : B ≤ w.heap.size)
    (hI : Inv x0 w) (hIB : ∀ x W W', Inv x W → Below W.heap.size W W' → Inv x W') (hIL : ∀ x W, Inv x W → ∃ a c, GIs Bl gl a c (line x) W) (hIds : ∀ x W, Inv x W → ∀ p ∈ line x, -9223372036854775808 ≤ p.1 ∧ p.1 ≤ 9223372036854775807)
    (n : Nat) (hn : n = (line x0).length) (hn6 : n ≤ 1000000) (hK : K ≤ 100)
    (hbd : ∀ x z e, (act x z e).2.1 ≤ (z : Int) + K ∧ (act x z e).2.2 ≤ (z : Int) + K)
    (hact : ∀ x W z e, Inv x W → KeepC B own w W → z ≤ 900000000 → (∃ s c, s < S ∧ c < num bs 0 4 ∧ e = enM bs k s c) → e.1 ≤ 65535 → e.2.1 ≤ 65535 → e.2.2.1 ≤ 65535 → e.2.2.2 ≤ 65535 → Calls Try.prog 107 #[.int .i64 (z : Nat), entV4 e, .pointer (some ⟨gx, 0, none⟩)] W fun r W' => r = .returned (.tuple #[.int .i64 (act x z e).2.1, .int .i64 (act x z e).2.2]) ∧ Inv (act x z e).1 W' ∧ KeepC B own W W') :
    Calls Try.prog 57 #[.pointer (some ⟨g, 0, none⟩), .pointer (some ⟨gl, 0, none⟩), .func (.func 107) #[] #[.pointer (some ⟨gx, 0, none⟩)]] w fun e w' =>
      e = .returned (.tuple #[.int .i64 ((runD (fun x z => clD bs rs (line x) z) (enM bs k) (fun x z => decide ((line x).length ≤ z)) act (2 * n + 128) x0 0 0 0 1).2.1 : Nat), .int .i64 ((runD (fun x z => clD bs rs (line x) z) (enM bs k) (fun x z => decide ((line x).length ≤ z)) act (2 * n + 128) x0 0 0 0 1).2.2 : Nat)]) ∧ Inv (runD (fun x z => clD bs rs (line x) z) (enM bs k) (fun x z => decide ((line x).length ≤ z)) act (2 * n + 128) x0 0 0 0 1).1 w' ∧ KeepC B own w w' := by
  have hAC := allocC
  have hAF := allocF
  have hN := fn_nilA
  obtain ⟨R, hR⟩ : ∃ R, R = runD (fun x z => clD bs rs (line x) z) (enM bs k) (fun x z => decide ((line x).length ≤ z)) act (2 * n + 128) x0 0 0 0 1 := ⟨_, rfl⟩
  rw [← hR]
  obtain ⟨a0, c0, hG0⟩ := hIL x0 w hI
  have hln := glen_any Bl gl a0 c0 (line x0) w hG0
  rw [← hn] at hln
  have HLN := Lib.hid hln
  have HM := Lib.hid hM
  have HCA := Lib.hid (fun W x z (hk : KeepC B own w W) (hx : Inv x W) (hz : z ≤ 1000000000) => by
    obtain ⟨a, c, hG⟩ := hIL x W hx
    exact classAt_z Bm g bs k rs S Bl gl a c (line x) z hz W (hM.keepO hk hown) hfit hG (hIds x W hx))
  have HST := Lib.hid (fun W (hk : KeepC B own w W) s c (hs : s < S) (hc : c < num bs 0 4) => step_yes Bm g bs k rs S s c W (hM.keepO hk hown) hS hs hc)
  have HACT := Lib.hid hact
  have HCL := Lib.hid (fun x z => clD_lt bs rs (line x) z hok.cls.1)
  have HNX := Lib.hid (fun s c (hs : s < S) (hc : c < num bs 0 4) => enM_next bs k hok hs hc)
  have HIB := Lib.hid hIB
  have HI := Lib.hid hI
  have HR := Lib.hid hR
  have HBD := Lib.hid hbd
  have HOWN := Lib.hid hown
  have hS2 : 0 < S := by have := hok.least.closed.1; omega
  have hK2 : K * (2 * n + 129) ≤ 100 * (2 * n + 129) := Nat.mul_le_mul_right _ hK
  clear hM hok hfit hown hI hIB hIL hIds hn hact hG0 hln hR hbd
  go_enter Try.func57, Try.ntmps57
  go_wp2_with (go_at_call 104; (with_reducible refine HLN.out.mono ?_); rintro e w_ ⟨rfl, rfl⟩)
  go_loopw [9, 10, 11, 12] (fun now at' rests steps wr => ∃ (fu : Nat) (x : X) (s z re st : Nat), now = .int .i64 (s : Nat) ∧ at' = .int .i64 (z : Nat) ∧ rests = .int .i64 (re : Nat) ∧ steps = .int .i64 (st : Nat) ∧ s < S ∧ z ≤ K * st ∧ re ≤ 64 ∧ st + fu = 2 * n + 129 ∧ Inv x wr ∧ KeepC B own w wr ∧ runD (fun x z => clD bs rs (line x) z) (enM bs k) (fun x z => decide ((line x).length ≤ z)) act fu x s z re st = R) (fun _ _ _ steps _ => 2 * n + 129 - (Go.RowKit.intOf steps).toNat)
  case atStart => exact ⟨2 * n + 128, x0, 0, 0, 0, 1, rfl, rfl, rfl, rfl, hS2, Nat.zero_le _, Nat.zero_le _, by omega, HI.out, KeepC.refl _ _ _, HR.out.symm⟩
  case round =>
    obtain ⟨fu, x, s, z, re, st, rfl, rfl, rfl, rfl, hs, hz, hre, hst, hx, hk, hrun⟩ := hrel
    rename World => wr
    have HX := Lib.hid hx
    have HK := Lib.hid hk
    have HRUN := Lib.hid hrun
    clear hx hk hrun
    by_cases hfu : fu = 0
    · have hst2 : st = 2 * n + 129 := by omega
      have d1 : decide ((st : Int) ≤ 2 * (n : Int) + 128) = false := by simp; omega
      have hrun := HRUN.out
      rw [hfu, runD] at hrun
      have HRUN := Lib.hid hrun
      clear hfu hrun
      go_wp2_with fail
      go_ret2
      rw [← HRUN.out]
      refine ⟨?_, HX.out, HK.out⟩
      show Ending.returned (.tuple #[.int .i64 (2 * (n : Int) + 128), .int .i64 4]) = Ending.returned (.tuple #[.int .i64 ((st - 1 : Nat) : Int), .int .i64 ((4 : Nat) : Int)])
      rw [show ((st - 1 : Nat) : Int) = 2 * (n : Int) + 128 by omega]
      rfl
    · obtain ⟨f, rfl⟩ : ∃ f, fu = f + 1 := ⟨fu - 1, by omega⟩
      have d1 : decide ((st : Int) ≤ 2 * (n : Int) + 128) = true := by simp; omega
      have hzb : z ≤ 900000000 := by
        have : K * st ≤ K * (2 * n + 129) := Nat.mul_le_mul_left _ (by omega)
        omega
      have hrun := HRUN.out
      have hBD := HBD.out x z (enM bs k s (clD bs rs (line x) z))
      have hC := HCL.out x z
      have hca := HCA.out wr x z HK.out HX.out (by omega)
      have hnx := HNX.out s (clD bs rs (line x) z) hs hC
      have hstp := fun W (hW : KeepC B own w W) => show Calls Try.prog 106 #[.pointer (some ⟨g, 0, none⟩), .int .i64 (s : Nat), .int .i64 (clD bs rs (line x) z : Nat)] W fun e w' => e = .returned (.tuple #[entV4 (enM bs k s (clD bs rs (line x) z)), .bool true]) ∧ Below W.heap.size W w' from HST.out W hW s (clD bs rs (line x) z) hs hC
      have hle : (enM bs k s (clD bs rs (line x) z)).1 ≤ 65535 ∧ (enM bs k s (clD bs rs (line x) z)).2.1 ≤ 65535 ∧ (enM bs k s (clD bs rs (line x) z)).2.2.1 ≤ 65535 ∧ (enM bs k s (clD bs rs (line x) z)).2.2.2 ≤ 65535 := entX_le _ _ _
      rw [runD] at hrun
      (try simp only at hrun)
      generalize he : enM bs k s (clD bs rs (line x) z) = E at *
      generalize clD bs rs (line x) z = C at *
      obtain ⟨e0, e1, e2, e3⟩ := E
      (try simp only at hle hnx hrun)
      have hac := fun W (hi : Inv x W) (hk : KeepC B own w W) => HACT.out x W z (e0, e1, e2, e3) hi hk hzb ⟨s, C, hs, hC, he.symm⟩ hle.1 hle.2.1 hle.2.2.1 hle.2.2.2
      generalize act x z (e0, e1, e2, e3) = r at hrun hac hBD
      obtain ⟨x1, y1, y2⟩ := r
      (try simp only at hrun hac hBD)
      simp only [entV4] at hac hstp
      obtain ⟨wi, hwi⟩ : ∃ wi, decide (z < (line x).length) = wi := ⟨_, rfl⟩
      rw [hwi] at hca
      have HWI := Lib.hid hwi
      have HC1 := Lib.hid hca
      have HS1 := Lib.hid hstp
      have HA1 := Lib.hid hac
      have hzs : z + K ≤ K * (st + 1) := by rw [Nat.mul_succ]; omega
      obtain ⟨p1, hp1⟩ : ∃ p : Nat, max y1 0 = p := ⟨(max y1 0).toNat, by omega⟩
      obtain ⟨p2, hp2⟩ : ∃ p : Nat, max y2 0 = p := ⟨(max y2 0).toNat, by omega⟩
      rw [hp1, hp2, Int.toNat_natCast, Int.toNat_natCast] at hrun
      have hq1 : p1 ≤ z + K := by omega
      have hq2 : p2 ≤ z + K := by omega
      have HRN := Lib.hid hrun
      have hle1 := hle.2.1
      have hBr := Nat.le_trans hB HK.out.size
      clear hwi he hca hstp hac hrun hle hBD hC HRUN
      by_cases hA : e1 / 2 ^ 14 % 2 = 1
      · have hbt : bits .and .i64 (e1 : Int) 16384 = 16384 := flag_yes e1 14 hle1 (by decide) 16384 rfl hA
        have hrn := HRN.out
        rw [if_pos hA] at hrn
        by_cases h64 : 64 < re + 1
        · have d2 : decide ((64 : Int) < (re : Int) + 1) = true := by simp; omega
          rw [if_pos h64] at hrn
          have HRN := Lib.hid hrn
          clear hrn hA
          go_wp2_with (first
            | (go_at_call 105; (with_reducible refine HC1.out.mono ?_); rintro e w1 ⟨rfl, hb1⟩; have HK1 := Lib.hid (HK.out.trans (KeepC.of (own := own) hb1 hBr)); have HX1 := Lib.hid (HIB.out _ _ _ HX.out hb1); clear hb1)
            | (go_at_call 106; (with_reducible refine (HS1.out _ HK1.out).mono ?_); rintro e w2 ⟨rfl, hb2⟩; have hBw := Nat.le_trans hB HK1.out.size; have hb2' : Below w1.heap.size w1 (w2.alloc (Obj.cells #[.int .i64 (e0 : Nat), .int .i64 (e1 : Nat), .int .i64 (e2 : Nat), .int .i64 (e3 : Nat)] 88)) := balloc hb2 _; have HK2 := Lib.hid (HK1.out.trans (KeepC.of (own := own) hb2' hBw)); have HX2 := Lib.hid (HIB.out _ _ _ HX1.out hb2'); clear hb2 hb2' hBw)
            | (go_at_call 107; (with_reducible refine (HA1.out _ HX2.out HK2.out).mono ?_); rintro e w3 ⟨rfl, hx3, hk3⟩; have h14 := (hk3.kept w2.heap.size _ _ _ (heap_push _ _ _ |>.trans (if_pos rfl)) (HOWN.out.2.2.1 _)).trans (heap_push _ _ _ |>.trans (if_pos rfl)); have q0 := cell_of_heap h14 0; have q1 := cell_of_heap h14 1; simp only [List.getElem?_toArray, List.getElem?_cons_succ, List.getElem?_cons_zero] at q0 q1; have HX3 := Lib.hid hx3; have HK3 := Lib.hid (HK2.out.trans hk3); clear hx3 hk3 h14))
          go_ret2
          rw [← HRN.out]
          exact ⟨rfl, HX3.out, HK3.out⟩
        · have d2 : decide ((64 : Int) < (re : Int) + 1) = false := by simp; omega
          rw [if_neg h64] at hrn
          have HRN := Lib.hid hrn
          clear hrn hA
          go_wp2_with (first
            | (go_at_call 105; (with_reducible refine HC1.out.mono ?_); rintro e w1 ⟨rfl, hb1⟩; have HK1 := Lib.hid (HK.out.trans (KeepC.of (own := own) hb1 hBr)); have HX1 := Lib.hid (HIB.out _ _ _ HX.out hb1); clear hb1)
            | (go_at_call 106; (with_reducible refine (HS1.out _ HK1.out).mono ?_); rintro e w2 ⟨rfl, hb2⟩; have hBw := Nat.le_trans hB HK1.out.size; have hb2' : Below w1.heap.size w1 (w2.alloc (Obj.cells #[.int .i64 (e0 : Nat), .int .i64 (e1 : Nat), .int .i64 (e2 : Nat), .int .i64 (e3 : Nat)] 88)) := balloc hb2 _; have HK2 := Lib.hid (HK1.out.trans (KeepC.of (own := own) hb2' hBw)); have HX2 := Lib.hid (HIB.out _ _ _ HX1.out hb2'); clear hb2 hb2' hBw)
            | (go_at_call 107; (with_reducible refine (HA1.out _ HX2.out HK2.out).mono ?_); rintro e w3 ⟨rfl, hx3, hk3⟩; have h14 := (hk3.kept w2.heap.size _ _ _ (heap_push _ _ _ |>.trans (if_pos rfl)) (HOWN.out.2.2.1 _)).trans (heap_push _ _ _ |>.trans (if_pos rfl)); have q0 := cell_of_heap h14 0; have q1 := cell_of_heap h14 1; simp only [List.getElem?_toArray, List.getElem?_cons_succ, List.getElem?_cons_zero] at q0 q1; have HX3 := Lib.hid hx3; have HK3 := Lib.hid (HK2.out.trans hk3); clear hx3 hk3 h14))
          go_roundw
          case rel => exact ⟨f, x1, e0, p1, re + 1, st + 1, rfl, by first | (congr 1; split <;> omega) | congr 1, by go_num, by go_num, hnx, by omega, by omega, by omega, HX3.out, HK3.out, HRN.out⟩
          case measure => simp only [RowKit.intOf]; omega
      · have hbt : bits .and .i64 (e1 : Int) 16384 = 0 := flag_no e1 14 hle1 (by decide) 16384 rfl hA
        have hrn := HRN.out
        rw [if_neg hA] at hrn
        by_cases hC0 : (line x).length ≤ z
        · obtain rfl : wi = false := by rw [← HWI.out]; simp; omega
          rw [if_pos (by simp; omega)] at hrn
          have HRN := Lib.hid hrn
          clear hrn hA hC0
          go_wp2_with (first
            | (go_at_call 105; (with_reducible refine HC1.out.mono ?_); rintro e w1 ⟨rfl, hb1⟩; have HK1 := Lib.hid (HK.out.trans (KeepC.of (own := own) hb1 hBr)); have HX1 := Lib.hid (HIB.out _ _ _ HX.out hb1); clear hb1)
            | (go_at_call 106; (with_reducible refine (HS1.out _ HK1.out).mono ?_); rintro e w2 ⟨rfl, hb2⟩; have hBw := Nat.le_trans hB HK1.out.size; have hb2' : Below w1.heap.size w1 (w2.alloc (Obj.cells #[.int .i64 (e0 : Nat), .int .i64 (e1 : Nat), .int .i64 (e2 : Nat), .int .i64 (e3 : Nat)] 88)) := balloc hb2 _; have HK2 := Lib.hid (HK1.out.trans (KeepC.of (own := own) hb2' hBw)); have HX2 := Lib.hid (HIB.out _ _ _ HX1.out hb2'); clear hb2 hb2' hBw)
            | (go_at_call 107; (with_reducible refine (HA1.out _ HX2.out HK2.out).mono ?_); rintro e w3 ⟨rfl, hx3, hk3⟩; have h14 := (hk3.kept w2.heap.size _ _ _ (heap_push _ _ _ |>.trans (if_pos rfl)) (HOWN.out.2.2.1 _)).trans (heap_push _ _ _ |>.trans (if_pos rfl)); have q0 := cell_of_heap h14 0; have q1 := cell_of_heap h14 1; simp only [List.getElem?_toArray, List.getElem?_cons_succ, List.getElem?_cons_zero] at q0 q1; have HX3 := Lib.hid hx3; have HK3 := Lib.hid (HK2.out.trans hk3); clear hx3 hk3 h14))
          go_ret2
          rw [← HRN.out]
          exact ⟨rfl, HX3.out, HK3.out⟩
        · obtain rfl : wi = true := by rw [← HWI.out]; simp; omega
          rw [if_neg (by simp; omega)] at hrn
          have HRN := Lib.hid hrn
          clear hrn hA hC0
          go_wp2_with (first
            | (go_at_call 105; (with_reducible refine HC1.out.mono ?_); rintro e w1 ⟨rfl, hb1⟩; have HK1 := Lib.hid (HK.out.trans (KeepC.of (own := own) hb1 hBr)); have HX1 := Lib.hid (HIB.out _ _ _ HX.out hb1); clear hb1)
            | (go_at_call 106; (with_reducible refine (HS1.out _ HK1.out).mono ?_); rintro e w2 ⟨rfl, hb2⟩; have hBw := Nat.le_trans hB HK1.out.size; have hb2' : Below w1.heap.size w1 (w2.alloc (Obj.cells #[.int .i64 (e0 : Nat), .int .i64 (e1 : Nat), .int .i64 (e2 : Nat), .int .i64 (e3 : Nat)] 88)) := balloc hb2 _; have HK2 := Lib.hid (HK1.out.trans (KeepC.of (own := own) hb2' hBw)); have HX2 := Lib.hid (HIB.out _ _ _ HX1.out hb2'); clear hb2 hb2' hBw)
            | (go_at_call 107; (with_reducible refine (HA1.out _ HX2.out HK2.out).mono ?_); rintro e w3 ⟨rfl, hx3, hk3⟩; have h14 := (hk3.kept w2.heap.size _ _ _ (heap_push _ _ _ |>.trans (if_pos rfl)) (HOWN.out.2.2.1 _)).trans (heap_push _ _ _ |>.trans (if_pos rfl)); have q0 := cell_of_heap h14 0; have q1 := cell_of_heap h14 1; simp only [List.getElem?_toArray, List.getElem?_cons_succ, List.getElem?_cons_zero] at q0 q1; have HX3 := Lib.hid hx3; have HK3 := Lib.hid (HK2.out.trans hk3); clear hx3 hk3 h14))
          go_roundw
          case rel => exact ⟨f, x1, e0, p2, 0, st + 1, rfl, by first | (congr 1; split <;> omega) | congr 1, rfl, by go_num, hnx, by omega, by omega, by omega, HX3.out, HK3.out, HRN.out⟩
          case measure => simp only [RowKit.intOf]; omega
end Go.Proofs.Ytaladlaffglkeaa
end
section

/- ctx.Run: what a subtable that changes glyphs by what stands around them does to a line. Conditions: a subtable and a line in memory; sizes. -/
namespace Go.Proofs.Ytaladlaffglkeaa
open Go.RowKit Go.Lib

theorem fn_nilC (fn : Fn) (first cap : Array Value) (w : World) : (binOp .neq 141 (.func fn first cap) .nilFunc).run Try.prog w = .ok (.bool true) w := by kernel_rfl
end Go.Proofs.Ytaladlaffglkeaa
end
section

/- ctx.Read: such a subtable that bytes begin with. Conditions: as many bytes as the slice says; glyphs as an int. -/
namespace Go.Proofs.Ytaladlaffglkeaa
open Go.RowKit Go.Lib

end Go.Proofs.Ytaladlaffglkeaa
end
section

/- What law 15 asks first: a mark, and a change there. No condition. -/
namespace Go.Proofs.Ytaladlaffglkeaa
open Go.RowKit Go.Lib

theorem newG_idsC {ids : List Int} (h : ∀ z ∈ ids, -9223372036854775808 ≤ z ∧ z ≤ 9223372036854775807) : IdsOk (newG ids) := by
  intro p hp
  obtain ⟨k, hk⟩ := List.mem_iff_getElem?.1 hp
  rw [newG_get] at hk
  cases hz : ids[k]? with
  | none => rw [hz] at hk; cases hk
  | some z =>
    rw [hz] at hk
    cases hk
    exact h z (List.mem_of_getElem? hz)
end Go.Proofs.Ytaladlaffglkeaa
end
section

/- The document's subtable of layer 15 beside the code's: what both read of bytes, and what their lookups give; clusters stay. Conditions: as each says. -/
namespace Go.Proofs.Ytaladlaffglkeaa
open Go.RowKit Go.Lib


end Go.Proofs.Ytaladlaffglkeaa
end
section

/- A subtable of layer 15 whose entries name no lookup, or whose lookups have no glyph: its bytes, and that it changes no line. Conditions: a plan of a machine; the bytes' places below 65536. No walk. -/
namespace Go.Proofs.Ytaladlaffglkeaa
open Go.RowKit Go.Lib

theorem num_splice (L D : List UInt8) (o k s : Nat) (ho : o + D.length ≤ L.length) (h : k + s ≤ o ∨ o + D.length ≤ k) : num (splice L o D) k s = num L k s := by
  have hs : splice L o D = L.take o ++ D ++ L.drop (o + D.length) := by simp only [splice, List.append_assoc]
  rcases h with h | h
  · rw [hs, List.append_assoc, numL _ _ _ _ (by rw [List.length_take]; omega)]
    exact num_takeS L o k s h
  · obtain ⟨j, rfl⟩ : ∃ j, k = o + D.length + j := ⟨k - (o + D.length), by omega⟩
    rw [hs, numR _ _ _ j _ (by rw [List.length_append, List.length_take]; omega), num_dropS]
theorem num_spliceIn (L D : List UInt8) (o s : Nat) (ho : o + D.length ≤ L.length) (h : s ≤ D.length) : num (splice L o D) o s = num D 0 s := by
  have hs : splice L o D = L.take o ++ (D ++ L.drop (o + D.length)) := by simp only [splice, List.append_assoc]
  rw [hs, numR _ _ _ 0 _ (by rw [List.length_take]; omega), numL _ _ _ _ (by omega)]
end Go.Proofs.Ytaladlaffglkeaa
end
section

/- The bytes of subtables of layers 17 and 18, as their laws write them: where the lists stand, what is in them, the entries. No walk. Conditions: the bytes' places below 65536. -/
namespace Go.Proofs.Ytaladlaffglkeaa
open Go.RowKit Go.Lib

theorem numL4 (z : Nat) (Z : List UInt8) (h : z < 4294967296) : num (beN 4 z ++ Z) 0 4 = z := by
  rw [numL _ _ _ _ (by simp [beN_length])]
  simp [beN, num4, UInt8.toNat_ofNat']
  omega
section
variable {p : PlanL}
end
end Go.Proofs.Ytaladlaffglkeaa
end
section

/- What a subtable of layer 17 does to a line, as lists: places that are kept, actions, glyphs that become one. No walk, no condition: places that are kept are places of the line; clusters grow no greater than their place; without Perform, or without Push, the line stays. -/
namespace Go.Proofs.Ytaladlaffglkeaa
open Go.RowKit Go.Lib

end Go.Proofs.Ytaladlaffglkeaa
end
section

/- Layer 17: of however many glyphs that are kept one behind the other, no more than sixty-four become one. No walk; what the bytes tell of the machine and its lists is laid down as it is asked for. -/
namespace Go.Proofs.Ytaladlaffglkeaa
open Go.RowKit Go.Lib

end Go.Proofs.Ytaladlaffglkeaa
end
section

/- What a subtable of layer 18 does to a line, as lists: what is put, where the mark and the step's own glyph come to stand, how many are left. No walk: the line's own glyphs stay, in their order; as many more as it says, and no more than may be; with just as many left it is the same, with fewer it runs out; without lists it stays. -/
namespace Go.Proofs.Ytaladlaffglkeaa
open Go.RowKit Go.Lib

end Go.Proofs.Ytaladlaffglkeaa
end
section

/- What a subtable of layer 17, or 18, is, as its bytes tell it; and the plan that makes one glyph of two: what its bytes tell, and what it does to a line of glyphs 0 and a last one 1. No walk. Conditions: actions of four bytes, no more than two hundred. -/
namespace Go.Proofs.Ytaladlaffglkeaa
open Go.RowKit Go.Lib

section
variable (acts : List Nat)
def rsP : List RP := rowsT 0 2 6 2
end
end Go.Proofs.Ytaladlaffglkeaa
end
section

/- WholeGrows along a line: a subtable of layer 18 puts a glyph behind each; a subtable of layer 17 makes one of each and the one that was put. No walk; what the bytes tell is laid down as it is asked for. -/
namespace Go.Proofs.Ytaladlaffglkeaa
open Go.RowKit Go.Lib

end Go.Proofs.Ytaladlaffglkeaa
end
section

/- The plans of layer 18's first question and of WholeGrows: what their bytes tell. No walk, no condition. -/
namespace Go.Proofs.Ytaladlaffglkeaa
open Go.RowKit Go.Lib

end Go.Proofs.Ytaladlaffglkeaa
end
section

/- Subtables of layers 17 and 18 whose entries do nothing: the line stays. No walk; conditions: the entries that the machine needs are such. -/
namespace Go.Proofs.Ytaladlaffglkeaa
open Go.RowKit Go.Lib

end Go.Proofs.Ytaladlaffglkeaa
end
section

/- drive.Run, with any act that is a function of the program's: a machine goes along a line, whatever the act does by its own contract; what is known at each step may hang on the place. Conditions: a machine and a line in memory; the act keeps the machine, and what else is known; places are below 900000001. -/
namespace Go.Proofs.Ytaladlaffglkeaa
open Go.RowKit Go.Lib

end Go.Proofs.Ytaladlaffglkeaa
end
