/- Joined from: CWrite XRun XRead CEight DEnt DBits DSpec KSwap KSpec KRead KLaw KReadW CMap CList CAsk CTake DRef DWay KRef DRun CRun CRead CSpk KRun CIdleP XBytes XLig XLong XIns XPair XStay DRunG XGrow XPut COpen. -/
import Derived.Test.YthehcbbdkiomnaaJ14
import Derived.Test.YthehcbbdkiomnaaJ04
import Derived.Test.YthehcbbdkiomnaaJ03
import Derived.Test.YthehcbbdkiomnaaJ16
import Derived.Test.YthehcbbdkiomnaaJ08
import Derived.Test.YthehcbbdkiomnaaJ15
import Derived.Test.YthehcbbdkiomnaaJ01
import Derived.Test.YthehcbbdkiomnaaJ12
import Derived.Deep.WholeRow
import Derived.Maps.OwnOps
import Derived.Maps.OwnSet
import Derived.Test.YthehcbbdkiomnaaJ09
import Derived.ChangeSame
section

/- The bytes of a subtable of layer 15 as its law writes them: swashlaw15.Write. Conditions: a machine's plan and lookups in memory; sizes. -/
namespace Go.Proofs.Ythehcbbdkiomnaa
open Go.RowKit Go.Lib

/-- A lookup of glyphs from 0 on, in a row. -/
def vals16 (l : List Nat) : List UInt8 := l.flatMap fun x => beN 2 x
theorem vals16_length (l : List Nat) : (vals16 l).length = 2 * l.length := by
  induction l with
  | nil => rfl
  | cons x l ih => simp only [vals16, List.flatMap_cons, List.length_append, beN_length, List.length_cons] at *; omega
theorem vals16_snoc (l : List Nat) (q : Nat) (h : q < l.length) : vals16 (l.take (q + 1)) = vals16 (l.take q) ++ beN 2 (l.getD q 0) := by
  unfold vals16
  rw [List.take_add_one, List.flatMap_append, List.getElem?_eq_getElem h, List.getD_eq_getElem?_getD, List.getElem?_eq_getElem h]
  simp
theorem splice_take {α : Type} (L cs : List α) (o n : Nat) (h : o + cs.length ≤ n) (hn : n ≤ L.length) : (splice L o cs).take n = splice (L.take n) o cs := by
  unfold splice
  rw [List.take_append, List.take_append, List.take_take, List.take_take, List.length_take, Nat.min_eq_left (by omega : o ≤ L.length), Nat.min_eq_right (by omega : o ≤ n), Nat.min_eq_left (by omega : o ≤ n), List.take_of_length_le (by omega : cs.length ≤ n - o), List.drop_take, Nat.sub_sub]
/-- 'copy' into the middle of a row of the call's own. -/
theorem wpCopyRow {P : Program} {w : World} {o : Oper} {a : Act} {K : Act → World → Prop} {Q : Exit → Act → World → Prop} (d s : Operand) (dT sT : TypeId)
    (ho : o.op = .call { callee := .builtin .copy, args := #[d, s], argTypes := #[dT, sT] }) (elem : TypeId) (hu : P.underlying dT = some (.slice elem)) (hsz : (P.info? elem).map (·.size) = some 1)
    (base g n c : Nat) (xs : List Value) (hown : w.ownsRow base elem 1 (.slice (some ⟨g, 0, none⟩) n c) n xs)
    (off dLen dCap : Nat) (ad : Addr) (sLen sCap : Nat) (hd : a.eval d = .slice (some ⟨g, off, none⟩) dLen dCap) (hs : a.eval s = .slice (some ad) sLen sCap)
    (cs : List Value) (hn : cs.length = Nat.min sLen dLen * 1) (hsrc : ∀ j v, cs[j]? = some v → w.cell? (ad.add j) = some v) (hfit : off + cs.length ≤ n) (h1 : ∀ v ∈ cs, v.oneCell' = true)
    (h : ∀ w', w'.ownsRow base elem 1 (.slice (some ⟨g, 0, none⟩) n c) n (splice xs off cs) → (∀ k, k ≠ g → w'.heap[k]? = w.heap[k]?) → w'.heap.size = w.heap.size → Below g w w' → K (a.put o.dst (goInt (Nat.min sLen dLen))) w') : o.wp P a w K Q := by
  rcases hown.2 with ⟨hv, _⟩ | ⟨b, cap, cur, hv, hg, hh, hnc, hm, hcs, hx⟩
  · cases hv
  · injection hv with e1 _ e3
    injection e1 with e1
    injection e1 with e1 _ _
    subst e1 e3
    have hl : xs.length = n := by have := hown.1; omega
    refine wpCopyO d s dT sT ho elem 1 hu hsz g off dLen dCap ad sLen sCap hd hs cur elem hh cs hn hsrc (by omega) h1 fun w' g1 g2 g3 g4 => h w' ⟨?_, .inr ⟨g, c, _, rfl, hg, g1, hnc, hm, ?_, ?_⟩⟩ g2 g3 g4
    · rw [length_splice xs off cs (by omega), hl]; omega
    · rw [List.size_toArray, length_splice cur.toList off cs (by rw [Array.length_toList (xs := cur)]; omega), Array.length_toList (xs := cur), hcs]
    · rw [Nat.mul_one] at hx ⊢
      rw [← hx]
      exact splice_take _ cs off n (by omega) (by rw [Array.length_toList (xs := cur)]; omega)
theorem u8_one : (Try.prog.info? 5).map (·.size) = some 1 := by kernel_rfl
theorem owns_some {w : World} {base e size n c : Nat} {a : Option Addr} {xs : List Value} (h : w.ownsRow base e size (.slice a n c) n xs) (h0 : 0 < n) : ∃ g, a = some ⟨g, 0, none⟩ ∧ base ≤ g ∧ g < w.heap.size := by
  rcases h.2 with ⟨hv, h1⟩ | ⟨g, _, _, hv, hg, hh, _⟩
  · omega
  · injection hv with hv _ _
    exact ⟨g, hv, hg, (Array.getElem?_eq_some_iff.1 hh).1⟩
theorem bytesV_splice (X D : List UInt8) (o : Nat) : splice (bytesV X) o (bytesV D) = bytesV (splice X o D) := by
  simp [splice, bytesV, List.map_take, List.map_drop]
end Go.Proofs.Ythehcbbdkiomnaa
end
section

/- A lookup's glyphs in the places of a line's: what Run of a subtable of single glyphs does. Conditions: a subtable and a line in memory; sizes. -/
namespace Go.Proofs.Ythehcbbdkiomnaa
open Go.RowKit Go.Lib

/-- What a change of a line's glyphs may touch: the line's row. -/
def ownS (bk : Option Nat) (k t : Nat) : Prop := t = 100 ∧ bk = some k
theorem ownBlockS (a : Option Addr) (n c : Nat) : (Value.slice a n c).ownBlock = a.map (·.block) := by cases a <;> rfl
theorem GStep.keepS {bk : Option Nat} {B g : Nat} {a : Option Addr} {c : Nat} {l l' : List (Int × Int)} {w w' : World} (h : GStep B g a a w w') (hg : GIs B g a c l w) (hg' : GIs B g a c l' w') (hl : l'.length = l.length) (hbk : a.map (·.block) = bk) (hz : w.heap.size ≤ w'.heap.size) : KeepC B (ownS bk) w w' := by
  refine ⟨h.below, hz, fun k cs t fz hk ho => ?_⟩
  by_cases e2 : k = g
  · subst e2
    rw [hg'.hd, hg.hd, hl]
  · refine h.keep k (Array.getElem?_eq_some_iff.1 hk).1 e2 ?_
    by_cases e : t = 100
    · intro h2; exact ho ⟨e, hbk.symm.trans h2.symm⟩
    · rw [← ownBlockS a l.length c]; exact own_neE hg.row hk e
theorem gset_keep (B g : Nat) (a : Option Addr) (c : Nat) (l : List (Int × Int)) (w : World) (h : GIs B g a c l w) (z x : Int) :
    Calls Try.prog 99 #[.pointer (some ⟨g, 0, none⟩), .int .i64 z, .int .i64 x] w fun e w' => e = .returned (.bool (inG l z)) ∧ GIs B g a c (setG l z x) w' ∧ KeepC B (ownS (a.map (·.block))) w w' := by
  refine (gset_any B g a c l w h z x).mono ?_
  rintro e w' ⟨he, h1, h2, h3⟩
  exact ⟨he, h1, h2.keepS h h1 (by split <;> simp) rfl (by omega)⟩
end Go.Proofs.Ythehcbbdkiomnaa
end
section

/- Read of a subtable of single glyphs, and what its law asks first. Conditions: bytes as the slice says. -/
namespace Go.Proofs.Ythehcbbdkiomnaa
open Go.RowKit Go.Lib

end Go.Proofs.Ythehcbbdkiomnaa
end
section

/- A lookup of glyphs from 0 on, in a row: what it is, and what it gives. Conditions: numbers of two bytes; no more than 65535 glyphs. -/
namespace Go.Proofs.Ythehcbbdkiomnaa
open Go.RowKit Go.Lib

end Go.Proofs.Ythehcbbdkiomnaa
end
section

/- What a plan's bytes tell of its entries' flags; entries as cells. No walk. -/
namespace Go.Proofs.Ythehcbbdkiomnaa
open Go.RowKit Go.Lib

theorem entPB_flags (k : Nat) (e : Int × Int × Int × Int) (Z : List UInt8) : num (entPB k e ++ Z) 2 2 = m16 e.2.1 := by
  unfold entPB
  rw [List.append_assoc, List.append_assoc, List.append_assoc, numR _ _ 2 0 2 (by rw [beN_length]), numB2 _ _ (m16_lt _)]
theorem entsPB_flags (k : Nat) (hk : k ≤ 2) : ∀ (l : List (Int × Int × Int × Int)) (j : Nat) (e : Int × Int × Int × Int), l[j]? = some e → num (entsPB k l) (j * (4 + 2 * k) + 2) 2 = m16 e.2.1 := by
  intro l
  induction l with
  | nil => intro j e h; simp at h
  | cons x l ih =>
    intro j e h
    rw [show entsPB k (x :: l) = entPB k x ++ entsPB k l from rfl]
    match j, h with
    | 0, h =>
      simp at h
      subst h
      rw [Nat.zero_mul, Nat.zero_add, entPB_flags]
    | j + 1, h =>
      have e1 : (j + 1) * (4 + 2 * k) = j * (4 + 2 * k) + (4 + 2 * k) := Nat.succ_mul j _
      rw [numR _ _ _ (j * (4 + 2 * k) + 2) _ (by rw [entPB_length _ _ hk]; omega)]
      exact ih j e (by simpa using h)
theorem plan_ents (p : PlanL) (k room : Nat) (h : 22 + room + 2 * p.cls.length + 2 * (p.rows.length * p.n) ≤ 65535) : num (planB p k room) 12 4 = 22 + room + 2 * p.cls.length + 2 * (p.rows.length * p.n) := by
  simp only [planB, List.append_assoc]
  rw [numR _ _ 12 8 4 (by rw [beN_length]), numR _ _ 8 4 4 (by rw [beN_length]), numR _ _ 4 0 4 (by rw [beN_length]), numB4 _ _ (by omega)]
  omega
theorem entC4_len : ∀ l : List (Int × Int × Int × Int), (l.flatMap entC4).length = l.length * 4
  | [] => rfl
  | x :: l => by rw [List.flatMap_cons, List.length_append, entC4_len l, List.length_cons]; simp [entC4]; omega
theorem entC4_one (l : List (Int × Int × Int × Int)) : ∀ u ∈ l.flatMap entC4, u.oneCell' = true := by
  intro u hu
  obtain ⟨e, _, he⟩ := List.mem_flatMap.1 hu
  simp only [entC4, List.mem_cons, List.not_mem_nil, or_false] at he
  rcases he with rfl | rfl | rfl | rfl <;> rfl
theorem entC4_flag : ∀ (l : List (Int × Int × Int × Int)) (j : Nat) (e : Int × Int × Int × Int), l[j]? = some e → (l.flatMap entC4)[j * 4 + 1]? = some (.int .i64 e.2.1)
  | [], j, e, h => by simp at h
  | x :: l, 0, e, h => by simp at h; subst h; rfl
  | x :: l, j + 1, e, h => by
    rw [List.flatMap_cons, show (j + 1) * 4 + 1 = (entC4 x).length + (j * 4 + 1) by simp [entC4]; omega, List.getElem?_append_right (by omega), Nat.add_sub_cancel_left]
    exact entC4_flag l j e (by simpa using h)
theorem entC4_set : ∀ (l : List (Int × Int × Int × Int)) (j : Nat) (z : Int) (e : Int × Int × Int × Int), l[j]? = some e → (l.flatMap entC4).set (j * 4 + 1) (.int .i64 z) = (l.set j (e.1, z, e.2.2.1, e.2.2.2)).flatMap entC4
  | [], j, z, e, h => by simp at h
  | x :: l, 0, z, e, h => by simp at h; subst h; rfl
  | x :: l, j + 1, z, e, h => by
    rw [List.flatMap_cons, show (j + 1) * 4 + 1 = (entC4 x).length + (j * 4 + 1) by simp [entC4]; omega, List.set_append_right _ _ (by omega), Nat.add_sub_cancel_left, entC4_set l j z e (by simpa using h), List.set_cons_succ, List.flatMap_cons]
end Go.Proofs.Ythehcbbdkiomnaa
end
section

/- Flags of an entry, as bits. Condition: numbers of two bytes. -/
namespace Go.Proofs.Ythehcbbdkiomnaa
open Go.RowKit

theorem bits_and (v m : Nat) (hv : v ≤ 65535) (hm : m ≤ 65535) : bits .and .i64 (v : Int) (m : Int) = ((v &&& m : Nat) : Int) := by
  have e : (BitVec.ofInt 64 (v : Int)).toNat = v := by rw [BitVec.toNat_ofInt]; omega
  have e2 : (BitVec.ofInt 64 (m : Int)).toNat = m := by rw [BitVec.toNat_ofInt]; omega
  have h : v &&& m ≤ v := Nat.and_le_left
  simp only [bits, BitVec.toNat_and]
  show IntKind.wrap .i64 (((BitVec.ofInt 64 (v : Int)).toNat &&& (BitVec.ofInt 64 (m : Int)).toNat : Nat) : Int) = _
  rw [e, e2, IntKind.wrap_i64]
  omega
theorem nat_and_pow (v k : Nat) : v &&& 2 ^ k = if v / 2 ^ k % 2 = 1 then 2 ^ k else 0 := by
  apply Nat.eq_of_testBit_eq
  intro i
  rw [Nat.testBit_and, Nat.testBit_two_pow]
  by_cases hi : k = i
  · subst hi
    by_cases hb : v / 2 ^ k % 2 = 1
    · rw [if_pos hb, Nat.testBit_two_pow, Nat.testBit_eq_decide_div_mod_eq, hb]; simp
    · rw [if_neg hb, Nat.testBit_eq_decide_div_mod_eq]; simp [hb]
  · split
    · rw [Nat.testBit_two_pow]; simp [hi]
    · simp [hi]
theorem flag_yes (v k : Nat) (hv : v ≤ 65535) (hk : 2 ^ k ≤ 65535) (z : Int) (hz : z = ((2 ^ k : Nat) : Int)) (h : v / 2 ^ k % 2 = 1) : bits .and .i64 (v : Int) z = z := by
  subst hz
  rw [bits_and _ _ hv hk, nat_and_pow, if_pos h]
theorem flag_no (v k : Nat) (hv : v ≤ 65535) (hk : 2 ^ k ≤ 65535) (z : Int) (hz : z = ((2 ^ k : Nat) : Int)) (h : ¬ v / 2 ^ k % 2 = 1) : bits .and .i64 (v : Int) z = 0 := by
  subst hz
  rw [bits_and _ _ hv hk, nat_and_pow, if_neg h]
  rfl
end Go.Proofs.Ythehcbbdkiomnaa
end
section

/- A machine on its way along a line, as a function; drive's classAt at any place. Conditions: a machine and a line in memory; sizes. -/
namespace Go.Proofs.Ythehcbbdkiomnaa
open Go.RowKit Go.Lib

/-- An entry: its next state, flags, and two words. -/
abbrev Ent := Nat × Nat × Nat × Nat
def entX (vb : List UInt8) (k j : Nat) : Ent := (num vb (j * (4 + 2 * k)) 2, num vb (j * (4 + 2 * k) + 2) 2, if 0 < k then num vb (j * (4 + 2 * k) + 4) 2 else 0, if 1 < k then num vb (j * (4 + 2 * k) + 6) 2 else 0)
def entV4 (e : Ent) : Value := .agg #[.int .i64 (e.1 : Nat), .int .i64 (e.2.1 : Nat), .int .i64 (e.2.2.1 : Nat), .int .i64 (e.2.2.2 : Nat)]
theorem entX_le (vb : List UInt8) (k j : Nat) : (entX vb k j).1 ≤ 65535 ∧ (entX vb k j).2.1 ≤ 65535 ∧ (entX vb k j).2.2.1 ≤ 65535 ∧ (entX vb k j).2.2.2 ≤ 65535 := by
  unfold entX
  refine ⟨num2_lt _ _, num2_lt _ _, ?_, ?_⟩
  · dsimp only; split
    · exact num2_lt _ _
    · omega
  · dsimp only; split
    · exact num2_lt _ _
    · omega
/-- The entry of a state and a class. -/
def enM (bs : List UInt8) (k s c : Nat) : Ent := entX (bs.drop (num bs 12 4)) k (entN bs (s * num bs 0 4 + c))
/-- The class of a line's place, or of its end. -/
def clD (bs : List UInt8) (rs : List RP) (l : List (Int × Int)) (z : Nat) : Nat := match l[z]? with
  | some p => classM bs rs p.1
  | none => 0
theorem classM_less (bs : List UInt8) (rs : List RP) (id : Int) (h : 4 ≤ num bs 0 4) : classM bs rs id < num bs 0 4 := by
  unfold classM
  split
  · omega
  · simp only
    split
    · rename_i h2; exact h2.2
    · omega
theorem clD_lt (bs : List UInt8) (rs : List RP) (l : List (Int × Int)) (z : Nat) (h : 4 ≤ num bs 0 4) : clD bs rs l z < num bs 0 4 := by
  unfold clD
  split
  · exact classM_less _ _ _ h
  · omega
theorem enM_next (bs : List UInt8) (k : Nat) {glyphs : Nat} {rs : List RP} {S s c : Nat} (hok : MOk bs glyphs k rs S) (hs : s < S) (hc : c < num bs 0 4) : (enM bs k s c).1 < S := by
  have h1 : entN bs (s * num bs 0 4 + c) < needE bs S := ent_in hs hc
  have h2 : nextN bs k (entN bs (s * num bs 0 4 + c)) < needS bs k (needE bs S) := needL_lt h1
  have h3 := hok.least.closed.2
  have h4 : (enM bs k s c).1 = nextN bs k (entN bs (s * num bs 0 4 + c)) := by
    unfold enM entX nextN
    rw [num_dropS]
  omega
/-- A machine goes along a line: what becomes of it, how many steps, and the error. -/
def runD {X : Type} (cl : X → Nat → Nat) (en : Nat → Nat → Ent) (fin : X → Nat → Bool) (act : X → Nat → Ent → X × Int × Int) : Nat → X → Nat → Nat → Nat → Nat → X × Nat × Nat
  | 0, x, _, _, _, st => (x, st - 1, 4)
  | fu + 1, x, now, z, re, st =>
    let e := en now (cl x z)
    let r := act x z e
    if e.2.1 / 2 ^ 14 % 2 = 1 then (if 64 < re + 1 then (r.1, st, 4) else runD cl en fin act fu r.1 e.1 (max r.2.1 0).toNat (re + 1) (st + 1))
    else if fin x z then (r.1, st, 0) else runD cl en fin act fu r.1 e.1 (max r.2.2 0).toNat 0 (st + 1)
set_option maxRecDepth 100000 in
set_option maxHeartbeats 1600000 in
theorem classAt_z (B g : Nat) (bs : List UInt8) (k : Nat) (rs : List RP) (S : Nat) (Bl gl : Nat) (a : Option Addr) (c : Nat) (l : List (Int × Int)) (z : Nat) (hz : z ≤ 1000000000) (w : World) (h : MIs B g bs k rs S w) (hf : FitL (tabR (bs.drop (num bs 4 4)) rs).1 (tabR (bs.drop (num bs 4 4)) rs).2) (hG : GIs Bl gl a c l w) (hid : ∀ p ∈ l, -9223372036854775808 ≤ p.1 ∧ p.1 ≤ 9223372036854775807) :
    Calls Try.prog 73 #[.pointer (some ⟨g, 0, none⟩), .pointer (some ⟨gl, 0, none⟩), .int .i64 (z : Nat)] w fun e w' => e = .returned (.tuple #[.int .i64 (clD bs rs l z : Nat), .bool (decide (z < l.length))]) ∧ Below w.heap.size w w' := by
  have hAC := allocC
  have hAF := allocF
  have HAt := Lib.hid (gat_any Bl gl a c l w hG (z : Nat))
  have HM := Lib.hid h
  have HF := Lib.hid hf
  cases hl : l[z]? with
  | none =>
    have hin : inG l (z : Nat) = false := by
      have := List.getElem?_eq_none_iff.1 hl
      unfold inG
      simp
      omega
    rw [show clD bs rs l z = 0 by rw [clD, hl], show decide (z < l.length) = false by have := List.getElem?_eq_none_iff.1 hl; simp; omega]
    rw [hin, show atG l (z : Nat) = (0, 0) by rw [atG, if_neg (by rw [hin]; decide)]] at HAt
    simp only [glyphA] at HAt
    clear hl hin h hG hid hf
    go_enter Try.func73, Try.ntmps73
    go_wp2_with (go_at_call 44; (with_reducible refine HAt.out.mono ?_); rintro e w1 ⟨rfl, hb1⟩)
    go_ret2
    exact ⟨rfl, blw⟩
  | some p =>
    have hin : inG l (z : Nat) = true := inG_of hl
    have hat : atG l (z : Nat) = p := atG_of hl
    have hp := hid p (List.mem_of_getElem? hl)
    rw [show clD bs rs l z = classM bs rs p.1 by rw [clD, hl], show decide (z < l.length) = true by have := (List.getElem?_eq_some_iff.1 hl).1; simp; omega]
    rw [hin, hat] at HAt
    obtain ⟨p1, p2⟩ := p
    simp only [glyphA] at HAt hp
    have HC := Lib.hid (fun W (hW : Below w.heap.size w W) => class_any B g bs k rs S p1 W (HM.out.below hW) HF.out hp)
    clear hl hin hat h hG hid hf hp
    generalize classM bs rs p1 = C at *
    go_enter Try.func73, Try.ntmps73
    go_wp2_with (first | (go_at_call 44; (with_reducible refine HAt.out.mono ?_); rintro e w1 ⟨rfl, hb1⟩; have h1c := bc hb1; have h1f := bf hb1; have h1z := hb1.size) | (go_at_call 98; (with_reducible refine (HC.out _ (by exact blw)).mono ?_); rintro e w2 ⟨rfl, hb2⟩))
    go_ret2
    exact ⟨rfl, blw⟩
end Go.Proofs.Ythehcbbdkiomnaa
end
section

/- Lookups of a subtable that changes glyphs by what stands around them, as the document has them, and what its swap does. Conditions: the lookups in memory; sizes. -/
namespace Go.Proofs.Ythehcbbdkiomnaa
open Go.RowKit Go.Lib

end Go.Proofs.Ythehcbbdkiomnaa
end
section

/- Such a subtable of layer 15, as its bytes tell it. No condition. -/
namespace Go.Proofs.Ythehcbbdkiomnaa
open Go.RowKit Go.Lib

/-- The number of four bytes at a place, or -1. -/
def qAt (bs : List UInt8) (k : Nat) : Int := if k + 4 ≤ bs.length then (num bs k 4 : Nat) else -1
theorem qAt_any (a : Option Addr) (n c : Nat) (bs : List UInt8) (k : Nat) (z : Int) (hz : z = (k : Nat)) (w : World) (h : Has w a (bytesV bs)) (hl : bs.length = n) (hn : n ≤ maxLen) (hk : k ≤ 1000000000000) :
    Calls Try.prog 38 #[.slice a n c, .int .i64 z, .int .i64 4] w fun e w' => e = .returned (.int .i64 (qAt bs k)) ∧ w = w' := by
  subst hz
  unfold qAt
  split
  · rename_i hin
    exact u_in a n c k 4 bs w h hl (by omega) (by omega) hn
  · rename_i hin
    exact u_out a n c 4 (k : Int) w (by omega) (by omega) (by omega) hn
end Go.Proofs.Ythehcbbdkiomnaa
end
section

/- The document's Read of layer 15. Conditions: bytes as the slice says; sizes. -/
namespace Go.Proofs.Ythehcbbdkiomnaa
open Go.RowKit Go.Lib

end Go.Proofs.Ythehcbbdkiomnaa
end
section

/- Laws for a struct of some cells: loaded, stored, made anew, in one step each. Conditions: the block is known whole. -/
namespace Go.Proofs.Ythehcbbdkiomnaa
open Go.RowKit Go.Lib

theorem wpOpVK {P : Program} {w : World} {ops : Array Oper} {rest : List Oper} {o : Oper} {a : Act} {Q : Exit → Act → World → Prop} (hgd : o.guard = none) (v : Value) (w' : World) (hr : (execOp a.eval o).run P w = .ok (.value v) w') (h : wpList P ops Q rest (a.put o.dst v) w') : wpList P ops Q (o :: rest) a w :=
  wpList_plain hgd fun K hK => by
    show o.upon P a K Q ((execOp a.eval o).run P w)
    rw [hr]
    exact hK _ _ h
theorem wpOpUK {P : Program} {w : World} {ops : Array Oper} {rest : List Oper} {o : Oper} {a : Act} {Q : Exit → Act → World → Prop} (hgd : o.guard = none) (w' : World) (hr : (execOp a.eval o).run P w = .ok .skip w') (h : wpList P ops Q rest (a.put o.dst undef) w') : wpList P ops Q (o :: rest) a w :=
  wpList_plain hgd fun K hK => by
    show o.upon P a K Q ((execOp a.eval o).run P w)
    rw [hr]
    exact hK _ _ h
theorem wpAllocK {P : Program} {w : World} {ops : Array Oper} {rest : List Oper} {o : Oper} {a : Act} {Q : Exit → Act → World → Prop} (hgd : o.guard = none) (t : TypeId) (ho : o.op = .alloc t) (zs : Array Value) (hz : ∀ w, (Instr.alloc t true (.tuple #[])).run P w = .ok (.pointer (some ⟨w.heap.size, 0, none⟩)) (w.alloc (.cells zs t)))
    (h : wpList P ops Q rest (a.put o.dst (.pointer (some ⟨w.heap.size, 0, none⟩))) (w.alloc (.cells zs t))) : wpList P ops Q (o :: rest) a w :=
  wpOpVK hgd (.pointer (some ⟨w.heap.size, 0, none⟩)) (w.alloc (.cells zs t)) (by unfold execOp; rw [ho]; simp only [Sem.run_bind, Sem.run_pure, Sem.run_map, hz, Result.andThen]) h
theorem wpStoreK {P : Program} {w : World} {ops : Array Oper} {rest : List Oper} {o : Oper} {a : Act} {Q : Exit → Act → World → Prop} (hgd : o.guard = none) (t : TypeId) (p x : Operand) (ho : o.op = .store t p x) (g : Nat) (c c' : Array Value) (hp : a.eval p = .pointer (some ⟨g, 0, none⟩)) (hx : a.eval x = .agg c') (hg : w.heap[g]? = some (.cells c t (0, 0)))
    (hi : (P.info? t).map (·.size) = some c'.size) (hs : c.size = c'.size) (h1 : c'.all (·.oneCell') = true)
    (h : ∀ w', w'.heap[g]? = some (.cells c' t (0, 0)) → (∀ k, k ≠ g → w'.heap[k]? = w.heap[k]?) → w'.heap.size = w.heap.size → Below g w w' → wpList P ops Q rest (a.put o.dst undef) w') : wpList P ops Q (o :: rest) a w :=
  wpOpUK hgd (w.setRow g c') (by unfold execOp; rw [ho]; simp only [hp, hx, Instr.storeAt, Instr.sureAddr, Sem.run_bind, Sem.run_pure, Sem.run_map, Result.andThen, run_storeVar_row w g t t c c' hg hi hs h1]) (h _ (setRow_heap w g c _ t _ hg) (fun k hk => setRow_other w g k _ hk) (by simp [World.setRow]) (below_setRow (Below.refl _ _) (Nat.le_refl _) _))
end Go.Proofs.Ythehcbbdkiomnaa
end
section

/- The document's Read of layer 15: of bytes that begin with a machine. Conditions: bytes as the slice says; sizes. -/
namespace Go.Proofs.Ythehcbbdkiomnaa
open Go.RowKit Go.Lib

end Go.Proofs.Ythehcbbdkiomnaa
end
section

/- A map of lookups by where they stand, and a row of them. Conditions: as each says. -/
namespace Go.Proofs.Ythehcbbdkiomnaa
open Go.RowKit Go.Lib

end Go.Proofs.Ythehcbbdkiomnaa
end
section

/- ctx.take: so many lookups whose places stand in a list. Conditions: as many bytes as the slice says; sizes. -/
namespace Go.Proofs.Ythehcbbdkiomnaa
open Go.RowKit Go.Lib

end Go.Proofs.Ythehcbbdkiomnaa
end
section

/- ctx.asked: how many lookups some entries ask for. Conditions: entries as their bytes tell them. -/
namespace Go.Proofs.Ythehcbbdkiomnaa
open Go.RowKit Go.Lib

theorem ent_at {w : World} {a : Option Addr} {vb : List UInt8} {k n : Nat} (h : Has w a (entsV vb k n)) {j : Nat} (hj : j < n) : ∃ g o, a = some ⟨g, o, none⟩ ∧ g < w.heap.size ∧
    w.cell? ⟨g, o + j * 4, none⟩ = some (.int .i64 ((entX vb k j).1 : Nat)) ∧ w.cell? ⟨g, o + j * 4 + 1, none⟩ = some (.int .i64 ((entX vb k j).2.1 : Nat)) ∧ w.cell? ⟨g, o + j * 4 + 2, none⟩ = some (.int .i64 ((entX vb k j).2.2.1 : Nat)) ∧ w.cell? ⟨g, o + j * 4 + 3, none⟩ = some (.int .i64 ((entX vb k j).2.2.2 : Nat)) := by
  have hlen : 0 < (entsV vb k n).length := by
    have := entsV_get vb k n j 0 hj (by omega)
    rcases Nat.eq_zero_or_pos (entsV vb k n).length with h0 | h0
    · rw [List.getElem?_eq_none (by omega)] at this
      simp [entV] at this
    · exact h0
  obtain ⟨g, o, ha, hg, hx⟩ := h.get hlen
  have e0 : (entsV vb k n)[j * 4]? = some (.int .i64 ((entX vb k j).1 : Nat)) := by have := entsV_get vb k n j 0 hj (by omega); rw [Nat.add_zero] at this; exact this
  have e1 : (entsV vb k n)[j * 4 + 1]? = some (.int .i64 ((entX vb k j).2.1 : Nat)) := entsV_get vb k n j 1 hj (by omega)
  have e2 : (entsV vb k n)[j * 4 + 2]? = some (.int .i64 ((entX vb k j).2.2.1 : Nat)) := entsV_get vb k n j 2 hj (by omega)
  have e3 : (entsV vb k n)[j * 4 + 3]? = some (.int .i64 ((entX vb k j).2.2.2 : Nat)) := entsV_get vb k n j 3 hj (by omega)
  exact ⟨g, o, ha, hg, hx _ _ e0, by rw [Nat.add_assoc]; exact hx _ _ e1, by rw [Nat.add_assoc]; exact hx _ _ e2, by rw [Nat.add_assoc]; exact hx _ _ e3⟩
end Go.Proofs.Ythehcbbdkiomnaa
end
section

/- ctx.Take: such a subtable that a View begins with, or it throws. Conditions: as many bytes as the slice says. -/
namespace Go.Proofs.Ythehcbbdkiomnaa
open Go.RowKit Go.Lib

end Go.Proofs.Ythehcbbdkiomnaa
end
section

/- The document's Begin, Next and Go: where a machine is on its way. Conditions: a machine in memory; sizes. -/
namespace Go.Proofs.Ythehcbbdkiomnaa
open Go.RowKit Go.Lib

end Go.Proofs.Ythehcbbdkiomnaa
end
section

/- The document's way of a machine, told of the machine along a line as a function; seven stores into one block. No condition. -/
namespace Go.Proofs.Ythehcbbdkiomnaa
open Go.RowKit Go.Lib

end Go.Proofs.Ythehcbbdkiomnaa
end
section

/- The document's Run of layer 15. Conditions: a machine and lookups in memory; sizes. -/
namespace Go.Proofs.Ythehcbbdkiomnaa
open Go.RowKit Go.Lib

def IdsOk (l : List (Int × Int)) : Prop := ∀ p ∈ l, -9223372036854775808 ≤ p.1 ∧ p.1 ≤ 9223372036854775807
end Go.Proofs.Ythehcbbdkiomnaa
end
section

/- drive.Run, with an act made by Plain: a machine goes along a line, whatever the act does by its own contract. Conditions: a machine and a line in memory; the act keeps the machine, and what else is known; sizes. -/
namespace Go.Proofs.Ythehcbbdkiomnaa
open Go.RowKit Go.Lib

theorem fn_nilA (fn : Fn) (first cap : Array Value) (w : World) : (binOp .eql 118 (.func fn first cap) .nilFunc).run Try.prog w = .ok (.bool false) w := by kernel_rfl
set_option maxRecDepth 100000 in
set_option maxHeartbeats 3200000 in
theorem drunE_any {X : Type} (line : X → List (Int × Int)) (Inv : X → World → Prop) (act : X → Nat → Ent → X × Int × Int) (own : Nat → Nat → Prop) (K Bm g : Nat) (bs : List UInt8) (k glyphs : Nat) (rs : List RP) (S B Bl gl gx : Nat) (x0 : X) (w : World)
    (hM : MIs Bm g bs k rs S w) (hS : S ≤ 65536) (hok : MOk bs glyphs k rs S) (hg1 : 1 ≤ glyphs) (hfit : FitL (tabR (bs.drop (num bs 4 4)) rs).1 (tabR (bs.drop (num bs 4 4)) rs).2) (hown : notM own) (hB : B ≤ w.heap.size)
    (hI : Inv x0 w) (hIB : ∀ x W W', Inv x W → Below W.heap.size W W' → Inv x W') (hIL : ∀ x W, Inv x W → ∃ a c, GIs Bl gl a c (line x) W) (hIds : ∀ x W, Inv x W → ∀ p ∈ line x, -9223372036854775808 ≤ p.1 ∧ p.1 ≤ 9223372036854775807)
    (n : Nat) (hn : n = (line x0).length) (hn6 : n ≤ 1000000) (hK : K ≤ 100)
    (hbd : ∀ x z e, (act x z e).2.1 ≤ (z : Int) + K ∧ (act x z e).2.2 ≤ (z : Int) + K)
    (hact : ∀ x W z e, Inv x W → KeepC B own w W → z ≤ 900000000 → (∃ s c, s < S ∧ c < num bs 0 4 ∧ e = enM bs k s c) → e.1 ≤ 65535 → e.2.1 ≤ 65535 → e.2.2.1 ≤ 65535 → e.2.2.2 ≤ 65535 → Calls Try.prog 75 #[.int .i64 (z : Nat), entV4 e, .pointer (some ⟨gx, 0, none⟩)] W fun r W' => r = .returned (.tuple #[.int .i64 (act x z e).2.1, .int .i64 (act x z e).2.2]) ∧ Inv (act x z e).1 W' ∧ KeepC B own W W') :
    Calls Try.prog 41 #[.pointer (some ⟨g, 0, none⟩), .pointer (some ⟨gl, 0, none⟩), .func (.func 75) #[] #[.pointer (some ⟨gx, 0, none⟩)]] w fun e w' =>
      e = .returned (.tuple #[.int .i64 ((runD (fun x z => clD bs rs (line x) z) (enM bs k) (fun x z => decide ((line x).length ≤ z)) act (2 * n + 128) x0 0 0 0 1).2.1 : Nat), .int .i64 ((runD (fun x z => clD bs rs (line x) z) (enM bs k) (fun x z => decide ((line x).length ≤ z)) act (2 * n + 128) x0 0 0 0 1).2.2 : Nat)]) ∧ Inv (runD (fun x z => clD bs rs (line x) z) (enM bs k) (fun x z => decide ((line x).length ≤ z)) act (2 * n + 128) x0 0 0 0 1).1 w' ∧ KeepC B own w w' := by
  have hAC := allocC
  have hAF := allocF
  have hN := fn_nilA
  obtain ⟨R, hR⟩ : ∃ R, R = runD (fun x z => clD bs rs (line x) z) (enM bs k) (fun x z => decide ((line x).length ≤ z)) act (2 * n + 128) x0 0 0 0 1 := ⟨_, rfl⟩
  rw [← hR]
  obtain ⟨a0, c0, hG0⟩ := hIL x0 w hI
  have hln := glen_any Bl gl a0 c0 (line x0) w hG0
  rw [← hn] at hln
  have HLN := Lib.hid hln
  have HM := Lib.hid hM
  have HCA := Lib.hid (fun W x z (hk : KeepC B own w W) (hx : Inv x W) (hz : z ≤ 1000000000) => by
    obtain ⟨a, c, hG⟩ := hIL x W hx
    exact classAt_z Bm g bs k rs S Bl gl a c (line x) z hz W (hM.keepO hk hown) hfit hG (hIds x W hx))
  have HST := Lib.hid (fun W (hk : KeepC B own w W) s c (hs : s < S) (hc : c < num bs 0 4) => step_yes Bm g bs k rs S s c W (hM.keepO hk hown) hS hs hc)
  have HACT := Lib.hid hact
  have HCL := Lib.hid (fun x z => clD_lt bs rs (line x) z hok.cls.1)
  have HNX := Lib.hid (fun s c (hs : s < S) (hc : c < num bs 0 4) => enM_next bs k hok hs hc)
  have HIB := Lib.hid hIB
  have HI := Lib.hid hI
  have HR := Lib.hid hR
  have HBD := Lib.hid hbd
  have HOWN := Lib.hid hown
  have hS2 : 0 < S := by have := hok.least.closed.1; omega
  have hK2 : K * (2 * n + 129) ≤ 100 * (2 * n + 129) := Nat.mul_le_mul_right _ hK
  clear hM hok hfit hown hI hIB hIL hIds hn hact hG0 hln hR hbd
  go_enter Try.func41, Try.ntmps41
  go_wp2_with (go_at_call 72; (with_reducible refine HLN.out.mono ?_); rintro e w_ ⟨rfl, rfl⟩)
  go_loopw [9, 10, 11, 12] (fun now at' rests steps wr => ∃ (fu : Nat) (x : X) (s z re st : Nat), now = .int .i64 (s : Nat) ∧ at' = .int .i64 (z : Nat) ∧ rests = .int .i64 (re : Nat) ∧ steps = .int .i64 (st : Nat) ∧ s < S ∧ z ≤ K * st ∧ re ≤ 64 ∧ st + fu = 2 * n + 129 ∧ Inv x wr ∧ KeepC B own w wr ∧ runD (fun x z => clD bs rs (line x) z) (enM bs k) (fun x z => decide ((line x).length ≤ z)) act fu x s z re st = R) (fun _ _ _ steps _ => 2 * n + 129 - (Go.RowKit.intOf steps).toNat)
  case atStart => exact ⟨2 * n + 128, x0, 0, 0, 0, 1, rfl, rfl, rfl, rfl, hS2, Nat.zero_le _, Nat.zero_le _, by omega, HI.out, KeepC.refl _ _ _, HR.out.symm⟩
  case round =>
    obtain ⟨fu, x, s, z, re, st, rfl, rfl, rfl, rfl, hs, hz, hre, hst, hx, hk, hrun⟩ := hrel
    rename World => wr
    have HX := Lib.hid hx
    have HK := Lib.hid hk
    have HRUN := Lib.hid hrun
    clear hx hk hrun
    by_cases hfu : fu = 0
    · have hst2 : st = 2 * n + 129 := by omega
      have d1 : decide ((st : Int) ≤ 2 * (n : Int) + 128) = false := by simp; omega
      have hrun := HRUN.out
      rw [hfu, runD] at hrun
      have HRUN := Lib.hid hrun
      clear hfu hrun
      go_wp2_with fail
      go_ret2
      rw [← HRUN.out]
      refine ⟨?_, HX.out, HK.out⟩
      show Ending.returned (.tuple #[.int .i64 (2 * (n : Int) + 128), .int .i64 4]) = Ending.returned (.tuple #[.int .i64 ((st - 1 : Nat) : Int), .int .i64 ((4 : Nat) : Int)])
      rw [show ((st - 1 : Nat) : Int) = 2 * (n : Int) + 128 by omega]
      rfl
    · obtain ⟨f, rfl⟩ : ∃ f, fu = f + 1 := ⟨fu - 1, by omega⟩
      have d1 : decide ((st : Int) ≤ 2 * (n : Int) + 128) = true := by simp; omega
      have hzb : z ≤ 900000000 := by
        have : K * st ≤ K * (2 * n + 129) := Nat.mul_le_mul_left _ (by omega)
        omega
      have hrun := HRUN.out
      have hBD := HBD.out x z (enM bs k s (clD bs rs (line x) z))
      have hC := HCL.out x z
      have hca := HCA.out wr x z HK.out HX.out (by omega)
      have hnx := HNX.out s (clD bs rs (line x) z) hs hC
      have hstp := fun W (hW : KeepC B own w W) => show Calls Try.prog 74 #[.pointer (some ⟨g, 0, none⟩), .int .i64 (s : Nat), .int .i64 (clD bs rs (line x) z : Nat)] W fun e w' => e = .returned (.tuple #[entV4 (enM bs k s (clD bs rs (line x) z)), .bool true]) ∧ Below W.heap.size W w' from HST.out W hW s (clD bs rs (line x) z) hs hC
      have hle : (enM bs k s (clD bs rs (line x) z)).1 ≤ 65535 ∧ (enM bs k s (clD bs rs (line x) z)).2.1 ≤ 65535 ∧ (enM bs k s (clD bs rs (line x) z)).2.2.1 ≤ 65535 ∧ (enM bs k s (clD bs rs (line x) z)).2.2.2 ≤ 65535 := entX_le _ _ _
      rw [runD] at hrun
      (try simp only at hrun)
      generalize he : enM bs k s (clD bs rs (line x) z) = E at *
      generalize clD bs rs (line x) z = C at *
      obtain ⟨e0, e1, e2, e3⟩ := E
      (try simp only at hle hnx hrun)
      have hac := fun W (hi : Inv x W) (hk : KeepC B own w W) => HACT.out x W z (e0, e1, e2, e3) hi hk hzb ⟨s, C, hs, hC, he.symm⟩ hle.1 hle.2.1 hle.2.2.1 hle.2.2.2
      generalize act x z (e0, e1, e2, e3) = r at hrun hac hBD
      obtain ⟨x1, y1, y2⟩ := r
      (try simp only at hrun hac hBD)
      simp only [entV4] at hac hstp
      obtain ⟨wi, hwi⟩ : ∃ wi, decide (z < (line x).length) = wi := ⟨_, rfl⟩
      rw [hwi] at hca
      have HWI := Lib.hid hwi
      have HC1 := Lib.hid hca
      have HS1 := Lib.hid hstp
      have HA1 := Lib.hid hac
      have hzs : z + K ≤ K * (st + 1) := by rw [Nat.mul_succ]; omega
      obtain ⟨p1, hp1⟩ : ∃ p : Nat, max y1 0 = p := ⟨(max y1 0).toNat, by omega⟩
      obtain ⟨p2, hp2⟩ : ∃ p : Nat, max y2 0 = p := ⟨(max y2 0).toNat, by omega⟩
      rw [hp1, hp2, Int.toNat_natCast, Int.toNat_natCast] at hrun
      have hq1 : p1 ≤ z + K := by omega
      have hq2 : p2 ≤ z + K := by omega
      have HRN := Lib.hid hrun
      have hle1 := hle.2.1
      have hBr := Nat.le_trans hB HK.out.size
      clear hwi he hca hstp hac hrun hle hBD hC HRUN
      by_cases hA : e1 / 2 ^ 14 % 2 = 1
      · have hbt : bits .and .i64 (e1 : Int) 16384 = 16384 := flag_yes e1 14 hle1 (by decide) 16384 rfl hA
        have hrn := HRN.out
        rw [if_pos hA] at hrn
        by_cases h64 : 64 < re + 1
        · have d2 : decide ((64 : Int) < (re : Int) + 1) = true := by simp; omega
          rw [if_pos h64] at hrn
          have HRN := Lib.hid hrn
          clear hrn hA
          go_wp2_with (first
            | (go_at_call 73; (with_reducible refine HC1.out.mono ?_); rintro e w1 ⟨rfl, hb1⟩; have HK1 := Lib.hid (HK.out.trans (KeepC.of (own := own) hb1 hBr)); have HX1 := Lib.hid (HIB.out _ _ _ HX.out hb1); clear hb1)
            | (go_at_call 74; (with_reducible refine (HS1.out _ HK1.out).mono ?_); rintro e w2 ⟨rfl, hb2⟩; have hBw := Nat.le_trans hB HK1.out.size; have hb2' : Below w1.heap.size w1 (w2.alloc (Obj.cells #[.int .i64 (e0 : Nat), .int .i64 (e1 : Nat), .int .i64 (e2 : Nat), .int .i64 (e3 : Nat)] 59)) := balloc hb2 _; have HK2 := Lib.hid (HK1.out.trans (KeepC.of (own := own) hb2' hBw)); have HX2 := Lib.hid (HIB.out _ _ _ HX1.out hb2'); clear hb2 hb2' hBw)
            | (go_at_call 75; (with_reducible refine (HA1.out _ HX2.out HK2.out).mono ?_); rintro e w3 ⟨rfl, hx3, hk3⟩; have h14 := (hk3.kept w2.heap.size _ _ _ (heap_push _ _ _ |>.trans (if_pos rfl)) (HOWN.out.2.2.1 _)).trans (heap_push _ _ _ |>.trans (if_pos rfl)); have q0 := cell_of_heap h14 0; have q1 := cell_of_heap h14 1; simp only [List.getElem?_toArray, List.getElem?_cons_succ, List.getElem?_cons_zero] at q0 q1; have HX3 := Lib.hid hx3; have HK3 := Lib.hid (HK2.out.trans hk3); clear hx3 hk3 h14))
          go_ret2
          rw [← HRN.out]
          exact ⟨rfl, HX3.out, HK3.out⟩
        · have d2 : decide ((64 : Int) < (re : Int) + 1) = false := by simp; omega
          rw [if_neg h64] at hrn
          have HRN := Lib.hid hrn
          clear hrn hA
          go_wp2_with (first
            | (go_at_call 73; (with_reducible refine HC1.out.mono ?_); rintro e w1 ⟨rfl, hb1⟩; have HK1 := Lib.hid (HK.out.trans (KeepC.of (own := own) hb1 hBr)); have HX1 := Lib.hid (HIB.out _ _ _ HX.out hb1); clear hb1)
            | (go_at_call 74; (with_reducible refine (HS1.out _ HK1.out).mono ?_); rintro e w2 ⟨rfl, hb2⟩; have hBw := Nat.le_trans hB HK1.out.size; have hb2' : Below w1.heap.size w1 (w2.alloc (Obj.cells #[.int .i64 (e0 : Nat), .int .i64 (e1 : Nat), .int .i64 (e2 : Nat), .int .i64 (e3 : Nat)] 59)) := balloc hb2 _; have HK2 := Lib.hid (HK1.out.trans (KeepC.of (own := own) hb2' hBw)); have HX2 := Lib.hid (HIB.out _ _ _ HX1.out hb2'); clear hb2 hb2' hBw)
            | (go_at_call 75; (with_reducible refine (HA1.out _ HX2.out HK2.out).mono ?_); rintro e w3 ⟨rfl, hx3, hk3⟩; have h14 := (hk3.kept w2.heap.size _ _ _ (heap_push _ _ _ |>.trans (if_pos rfl)) (HOWN.out.2.2.1 _)).trans (heap_push _ _ _ |>.trans (if_pos rfl)); have q0 := cell_of_heap h14 0; have q1 := cell_of_heap h14 1; simp only [List.getElem?_toArray, List.getElem?_cons_succ, List.getElem?_cons_zero] at q0 q1; have HX3 := Lib.hid hx3; have HK3 := Lib.hid (HK2.out.trans hk3); clear hx3 hk3 h14))
          go_roundw
          case rel => exact ⟨f, x1, e0, p1, re + 1, st + 1, rfl, by first | (congr 1; split <;> omega) | congr 1, by go_num, by go_num, hnx, by omega, by omega, by omega, HX3.out, HK3.out, HRN.out⟩
          case measure => simp only [RowKit.intOf]; omega
      · have hbt : bits .and .i64 (e1 : Int) 16384 = 0 := flag_no e1 14 hle1 (by decide) 16384 rfl hA
        have hrn := HRN.out
        rw [if_neg hA] at hrn
        by_cases hC0 : (line x).length ≤ z
        · obtain rfl : wi = false := by rw [← HWI.out]; simp; omega
          rw [if_pos (by simp; omega)] at hrn
          have HRN := Lib.hid hrn
          clear hrn hA hC0
          go_wp2_with (first
            | (go_at_call 73; (with_reducible refine HC1.out.mono ?_); rintro e w1 ⟨rfl, hb1⟩; have HK1 := Lib.hid (HK.out.trans (KeepC.of (own := own) hb1 hBr)); have HX1 := Lib.hid (HIB.out _ _ _ HX.out hb1); clear hb1)
            | (go_at_call 74; (with_reducible refine (HS1.out _ HK1.out).mono ?_); rintro e w2 ⟨rfl, hb2⟩; have hBw := Nat.le_trans hB HK1.out.size; have hb2' : Below w1.heap.size w1 (w2.alloc (Obj.cells #[.int .i64 (e0 : Nat), .int .i64 (e1 : Nat), .int .i64 (e2 : Nat), .int .i64 (e3 : Nat)] 59)) := balloc hb2 _; have HK2 := Lib.hid (HK1.out.trans (KeepC.of (own := own) hb2' hBw)); have HX2 := Lib.hid (HIB.out _ _ _ HX1.out hb2'); clear hb2 hb2' hBw)
            | (go_at_call 75; (with_reducible refine (HA1.out _ HX2.out HK2.out).mono ?_); rintro e w3 ⟨rfl, hx3, hk3⟩; have h14 := (hk3.kept w2.heap.size _ _ _ (heap_push _ _ _ |>.trans (if_pos rfl)) (HOWN.out.2.2.1 _)).trans (heap_push _ _ _ |>.trans (if_pos rfl)); have q0 := cell_of_heap h14 0; have q1 := cell_of_heap h14 1; simp only [List.getElem?_toArray, List.getElem?_cons_succ, List.getElem?_cons_zero] at q0 q1; have HX3 := Lib.hid hx3; have HK3 := Lib.hid (HK2.out.trans hk3); clear hx3 hk3 h14))
          go_ret2
          rw [← HRN.out]
          exact ⟨rfl, HX3.out, HK3.out⟩
        · obtain rfl : wi = true := by rw [← HWI.out]; simp; omega
          rw [if_neg (by simp; omega)] at hrn
          have HRN := Lib.hid hrn
          clear hrn hA hC0
          go_wp2_with (first
            | (go_at_call 73; (with_reducible refine HC1.out.mono ?_); rintro e w1 ⟨rfl, hb1⟩; have HK1 := Lib.hid (HK.out.trans (KeepC.of (own := own) hb1 hBr)); have HX1 := Lib.hid (HIB.out _ _ _ HX.out hb1); clear hb1)
            | (go_at_call 74; (with_reducible refine (HS1.out _ HK1.out).mono ?_); rintro e w2 ⟨rfl, hb2⟩; have hBw := Nat.le_trans hB HK1.out.size; have hb2' : Below w1.heap.size w1 (w2.alloc (Obj.cells #[.int .i64 (e0 : Nat), .int .i64 (e1 : Nat), .int .i64 (e2 : Nat), .int .i64 (e3 : Nat)] 59)) := balloc hb2 _; have HK2 := Lib.hid (HK1.out.trans (KeepC.of (own := own) hb2' hBw)); have HX2 := Lib.hid (HIB.out _ _ _ HX1.out hb2'); clear hb2 hb2' hBw)
            | (go_at_call 75; (with_reducible refine (HA1.out _ HX2.out HK2.out).mono ?_); rintro e w3 ⟨rfl, hx3, hk3⟩; have h14 := (hk3.kept w2.heap.size _ _ _ (heap_push _ _ _ |>.trans (if_pos rfl)) (HOWN.out.2.2.1 _)).trans (heap_push _ _ _ |>.trans (if_pos rfl)); have q0 := cell_of_heap h14 0; have q1 := cell_of_heap h14 1; simp only [List.getElem?_toArray, List.getElem?_cons_succ, List.getElem?_cons_zero] at q0 q1; have HX3 := Lib.hid hx3; have HK3 := Lib.hid (HK2.out.trans hk3); clear hx3 hk3 h14))
          go_roundw
          case rel => exact ⟨f, x1, e0, p2, 0, st + 1, rfl, by first | (congr 1; split <;> omega) | congr 1, rfl, by go_num, hnx, by omega, by omega, by omega, HX3.out, HK3.out, HRN.out⟩
          case measure => simp only [RowKit.intOf]; omega
end Go.Proofs.Ythehcbbdkiomnaa
end
section

/- ctx.Run: what a subtable that changes glyphs by what stands around them does to a line. Conditions: a subtable and a line in memory; sizes. -/
namespace Go.Proofs.Ythehcbbdkiomnaa
open Go.RowKit Go.Lib

theorem fn_nilC (fn : Fn) (first cap : Array Value) (w : World) : (binOp .neq 124 (.func fn first cap) .nilFunc).run Try.prog w = .ok (.bool true) w := by kernel_rfl
end Go.Proofs.Ythehcbbdkiomnaa
end
section

/- ctx.Read: such a subtable that bytes begin with. Conditions: as many bytes as the slice says; glyphs as an int. -/
namespace Go.Proofs.Ythehcbbdkiomnaa
open Go.RowKit Go.Lib

end Go.Proofs.Ythehcbbdkiomnaa
end
section

/- What law 15 asks first: a mark, and a change there. No condition. -/
namespace Go.Proofs.Ythehcbbdkiomnaa
open Go.RowKit Go.Lib

theorem newG_idsC {ids : List Int} (h : ∀ z ∈ ids, -9223372036854775808 ≤ z ∧ z ≤ 9223372036854775807) : IdsOk (newG ids) := by
  intro p hp
  obtain ⟨k, hk⟩ := List.mem_iff_getElem?.1 hp
  rw [newG_get] at hk
  cases hz : ids[k]? with
  | none => rw [hz] at hk; cases hk
  | some z =>
    rw [hz] at hk
    cases hk
    exact h z (List.mem_of_getElem? hz)
end Go.Proofs.Ythehcbbdkiomnaa
end
section

/- The document's subtable of layer 15 beside the code's: what both read of bytes, and what their lookups give; clusters stay. Conditions: as each says. -/
namespace Go.Proofs.Ythehcbbdkiomnaa
open Go.RowKit Go.Lib


end Go.Proofs.Ythehcbbdkiomnaa
end
section

/- A subtable of layer 15 whose entries name no lookup, or whose lookups have no glyph: its bytes, and that it changes no line. Conditions: a plan of a machine; the bytes' places below 65536. No walk. -/
namespace Go.Proofs.Ythehcbbdkiomnaa
open Go.RowKit Go.Lib

theorem num_splice (L D : List UInt8) (o k s : Nat) (ho : o + D.length ≤ L.length) (h : k + s ≤ o ∨ o + D.length ≤ k) : num (splice L o D) k s = num L k s := by
  have hs : splice L o D = L.take o ++ D ++ L.drop (o + D.length) := by simp only [splice, List.append_assoc]
  rcases h with h | h
  · rw [hs, List.append_assoc, numL _ _ _ _ (by rw [List.length_take]; omega)]
    exact num_takeS L o k s h
  · obtain ⟨j, rfl⟩ : ∃ j, k = o + D.length + j := ⟨k - (o + D.length), by omega⟩
    rw [hs, numR _ _ _ j _ (by rw [List.length_append, List.length_take]; omega), num_dropS]
theorem num_spliceIn (L D : List UInt8) (o s : Nat) (ho : o + D.length ≤ L.length) (h : s ≤ D.length) : num (splice L o D) o s = num D 0 s := by
  have hs : splice L o D = L.take o ++ (D ++ L.drop (o + D.length)) := by simp only [splice, List.append_assoc]
  rw [hs, numR _ _ _ 0 _ (by rw [List.length_take]; omega), numL _ _ _ _ (by omega)]
/-- The first j of a list changed. -/
def mapL {α : Type} (f : α → α) (l : List α) (j : Nat) : List α := (l.take j).map f ++ l.drop j
theorem mapL_zero {α : Type} (f : α → α) (l : List α) : mapL f l 0 = l := by simp [mapL]
theorem mapL_all {α : Type} (f : α → α) (l : List α) : mapL f l l.length = l.map f := by simp [mapL]
theorem mapL_get {α : Type} (f : α → α) (l : List α) (j : Nat) : (mapL f l j)[j]? = l[j]? := by
  by_cases h : j ≤ l.length
  · rw [mapL, List.getElem?_append_right (by simp [List.length_take]; omega)]
    simp [List.length_take, Nat.min_eq_left h]
  · rw [List.getElem?_eq_none (by simp [mapL, List.length_take, List.length_drop]; omega), List.getElem?_eq_none (by omega)]
theorem mapL_set {α : Type} (f : α → α) (l : List α) (j : Nat) (e : α) (h : l[j]? = some e) : (mapL f l j).set j (f e) = mapL f l (j + 1) := by
  have hlt := (List.getElem?_eq_some_iff.1 h).1
  have hge := (List.getElem?_eq_some_iff.1 h).2
  rw [mapL, mapL, List.take_add_one, h, List.set_append, if_neg (by simp [List.length_take]; omega)]
  rw [List.drop_eq_getElem_cons hlt, hge]
  simp [List.length_take, Nat.min_eq_left (Nat.le_of_lt hlt)]
end Go.Proofs.Ythehcbbdkiomnaa
end
section

/- The bytes of subtables of layers 17 and 18, as their laws write them: where the lists stand, what is in them, the entries. No walk. Conditions: the bytes' places below 65536. -/
namespace Go.Proofs.Ythehcbbdkiomnaa
open Go.RowKit Go.Lib

theorem numL4 (z : Nat) (Z : List UInt8) (h : z < 4294967296) : num (beN 4 z ++ Z) 0 4 = z := by
  rw [numL _ _ _ _ (by simp [beN_length])]
  simp [beN, num4, UInt8.toNat_ofNat']
  omega
def longs (l : List Nat) : List UInt8 := l.flatMap fun x => beN 4 x
theorem longs_length (l : List Nat) : (longs l).length = 4 * l.length := by
  induction l with
  | nil => rfl
  | cons x l ih => simp only [longs, List.flatMap_cons, List.length_append, beN_length, List.length_cons] at *; omega
theorem longs_num : ∀ (l : List Nat) (k : Nat), (∀ x ∈ l, x < 4294967296) → k < l.length → num (longs l) (4 * k) 4 = l.getD k 0
  | [], k, _, h => by simp at h
  | x :: l, 0, hx, _ => by
    have := numL4 x (longs l) (hx x (by simp))
    simpa [longs] using this
  | x :: l, k + 1, hx, h => by
    have e : longs (x :: l) = beN 4 x ++ longs l := rfl
    rw [e, numR (beN 4 x) (longs l) (4 * (k + 1)) (4 * k) 4 (by rw [beN_length]; omega), longs_num l k (fun y hy => hx y (by simp [hy])) (by simpa using h)]
    simp
/-- A subtable of layer 17. -/
def ligH (p : PlanL) (nA nC : Nat) : List UInt8 :=
  splice (splice (splice (planB p 1 12) 16 (beN 4 (planB p 1 12).length)) 20 (beN 4 ((planB p 1 12).length + 4 * nA))) 24 (beN 4 ((planB p 1 12).length + 4 * nA + 2 * nC))
def ligB (p : PlanL) (acts comps ligs : List Nat) : List UInt8 := ligH p acts.length comps.length ++ longs acts ++ vals16 comps ++ vals16 ligs
section
variable {p : PlanL}
theorem planL1 : (planB p 1 12).length = 34 + 2 * p.cls.length + 2 * (p.rows.length * p.n) + p.ents.length * 6 := by
  have := planB_length p 1 12 (by decide)
  omega
theorem ligH_length (nA nC : Nat) : (ligH p nA nC).length = (planB p 1 12).length := by
  have h := planL1 (p := p)
  unfold ligH
  rw [length_splice _ _ _ (by rw [beN_length, length_splice _ _ _ (by rw [beN_length, length_splice _ _ _ (by rw [beN_length]; omega)]; omega), length_splice _ _ _ (by rw [beN_length]; omega)]; omega), length_splice _ _ _ (by rw [beN_length, length_splice _ _ _ (by rw [beN_length]; omega)]; omega), length_splice _ _ _ (by rw [beN_length]; omega)]
theorem ligH_num (nA nC k s : Nat) (hk : k + s ≤ 16 ∨ 28 ≤ k) (h : k + s ≤ (planB p 1 12).length) : num (ligH p nA nC) k s = num (planB p 1 12) k s := by
  have hl := planL1 (p := p)
  have h1 : (splice (planB p 1 12) 16 (beN 4 (planB p 1 12).length)).length = (planB p 1 12).length := length_splice _ _ _ (by rw [beN_length]; omega)
  have h2 : (splice (splice (planB p 1 12) 16 (beN 4 (planB p 1 12).length)) 20 (beN 4 ((planB p 1 12).length + 4 * nA))).length = (planB p 1 12).length := (length_splice _ _ _ (by rw [beN_length]; omega)).trans h1
  unfold ligH
  rw [num_splice _ _ _ _ _ (by rw [beN_length]; omega) (by rw [beN_length]; omega), num_splice _ _ _ _ _ (by rw [beN_length]; omega) (by rw [beN_length]; omega), num_splice _ _ _ _ _ (by rw [beN_length]; omega) (by rw [beN_length]; omega)]
theorem ligH_at (nA nC : Nat) (h : (planB p 1 12).length + 4 * nA + 2 * nC < 4294967296) : num (ligH p nA nC) 16 4 = (planB p 1 12).length ∧ num (ligH p nA nC) 20 4 = (planB p 1 12).length + 4 * nA ∧ num (ligH p nA nC) 24 4 = (planB p 1 12).length + 4 * nA + 2 * nC := by
  have hl := planL1 (p := p)
  have h1 : (splice (planB p 1 12) 16 (beN 4 (planB p 1 12).length)).length = (planB p 1 12).length := length_splice _ _ _ (by rw [beN_length]; omega)
  have h2 : (splice (splice (planB p 1 12) 16 (beN 4 (planB p 1 12).length)) 20 (beN 4 ((planB p 1 12).length + 4 * nA))).length = (planB p 1 12).length := (length_splice _ _ _ (by rw [beN_length]; omega)).trans h1
  have hb : ∀ z, z < 4294967296 → num (beN 4 z) 0 4 = z := fun z hz => by
    have := numL4 z [] hz
    rwa [List.append_nil] at this
  unfold ligH
  refine ⟨?_, ?_, ?_⟩
  · rw [num_splice _ _ _ _ _ (by rw [beN_length]; omega) (by rw [beN_length]; omega), num_splice _ _ _ _ _ (by rw [beN_length]; omega) (by rw [beN_length]; omega), num_spliceIn _ _ _ _ (by rw [beN_length]; omega) (by rw [beN_length]; decide), hb _ (by omega)]
  · rw [num_splice _ _ _ _ _ (by rw [beN_length]; omega) (by rw [beN_length]; omega), num_spliceIn _ _ _ _ (by rw [beN_length]; omega) (by rw [beN_length]; decide), hb _ (by omega)]
  · rw [num_spliceIn _ _ _ _ (by rw [beN_length]; omega) (by rw [beN_length]; decide), hb _ (by omega)]
theorem ligB_length (acts comps ligs : List Nat) : (ligB p acts comps ligs).length = (planB p 1 12).length + 4 * acts.length + 2 * comps.length + 2 * ligs.length := by
  unfold ligB
  simp only [List.length_append, ligH_length, longs_length, vals16_length]
theorem ligB_num (acts comps ligs : List Nat) (k s : Nat) (hk : k + s ≤ 16 ∨ 28 ≤ k) (h : k + s ≤ (planB p 1 12).length) : num (ligB p acts comps ligs) k s = num (planB p 1 12) k s := by
  unfold ligB
  rw [List.append_assoc, List.append_assoc, numL _ _ _ _ (by rw [ligH_length]; exact h), ligH_num _ _ _ _ hk h]
/-- Where the three lists stand, and what they are. -/
theorem ligB_lists (acts comps ligs : List Nat) (h : (planB p 1 12).length + 4 * acts.length + 2 * comps.length < 4294967296) :
    (num (ligB p acts comps ligs) 16 4 = (planB p 1 12).length ∧ num (ligB p acts comps ligs) 20 4 = (planB p 1 12).length + 4 * acts.length ∧ num (ligB p acts comps ligs) 24 4 = (planB p 1 12).length + 4 * acts.length + 2 * comps.length) ∧
    (ligB p acts comps ligs).drop ((planB p 1 12).length) = longs acts ++ (vals16 comps ++ vals16 ligs) ∧ (ligB p acts comps ligs).drop ((planB p 1 12).length + 4 * acts.length) = vals16 comps ++ vals16 ligs ∧ (ligB p acts comps ligs).drop ((planB p 1 12).length + 4 * acts.length + 2 * comps.length) = vals16 ligs := by
  have hl := planL1 (p := p)
  obtain ⟨a1, a2, a3⟩ := ligH_at (p := p) acts.length comps.length h
  have e : ligB p acts comps ligs = ligH p acts.length comps.length ++ (longs acts ++ (vals16 comps ++ vals16 ligs)) := by unfold ligB; simp only [List.append_assoc]
  have d1 : (ligB p acts comps ligs).drop ((planB p 1 12).length) = longs acts ++ (vals16 comps ++ vals16 ligs) := by
    rw [e]
    exact List.drop_left' (ligH_length _ _)
  have d2 : (ligB p acts comps ligs).drop ((planB p 1 12).length + 4 * acts.length) = vals16 comps ++ vals16 ligs := by
    rw [← List.drop_drop, d1]
    exact List.drop_left' (longs_length _)
  refine ⟨⟨?_, ?_, ?_⟩, d1, d2, ?_⟩
  · rw [e, numL _ _ _ _ (by rw [ligH_length]; omega), a1]
  · rw [e, numL _ _ _ _ (by rw [ligH_length]; omega), a2]
  · rw [e, numL _ _ _ _ (by rw [ligH_length]; omega), a3]
  · rw [← List.drop_drop, d2]
    exact List.drop_left' (vals16_length _)
end
/-- The entries' numbers. -/
theorem plan_at (p : PlanL) (k room : Nat) (i : Nat) : num (planB p k room) (22 + room + 2 * p.cls.length + 2 * (p.rows.length * p.n) + i) 2 = num (entsPB k p.ents) i 2 := by
  unfold planB
  rw [numR _ _ _ i _ (by simp only [ofB, List.length_append, beN_length, List.length_replicate, clsB_length, rowsPB_length]; omega)]
theorem ligB_flags (p : PlanL) (acts comps ligs : List Nat) (h : 34 + 2 * p.cls.length + 2 * (p.rows.length * p.n) ≤ 65535) (j : Nat) (e : Int × Int × Int × Int) (he : p.ents[j]? = some e) : (entX ((ligB p acts comps ligs).drop (num (ligB p acts comps ligs) 12 4)) 1 j).2.1 = m16 e.2.1 := by
  have hlen := planL1 (p := p)
  have hj : j < p.ents.length := (List.getElem?_eq_some_iff.1 he).1
  have h12 : num (ligB p acts comps ligs) 12 4 = 22 + 12 + 2 * p.cls.length + 2 * (p.rows.length * p.n) := by
    rw [ligB_num acts comps ligs 12 4 (by omega) (by omega), plan_ents p 1 12 (by omega)]
  have hf := entsPB_flags 1 (by decide) p.ents j e he
  rw [← hf]
  unfold entX
  rw [h12]
  simp only [num_dropS]
  rw [ligB_num acts comps ligs _ _ (by omega) (by omega), plan_at]
end Go.Proofs.Ythehcbbdkiomnaa
end
section

/- What a subtable of layer 17 does to a line, as lists: places that are kept, actions, glyphs that become one. No walk, no condition: places that are kept are places of the line; clusters grow no greater than their place; without Perform, or without Push, the line stays. -/
namespace Go.Proofs.Ythehcbbdkiomnaa
open Go.RowKit Go.Lib

/-- A line, and the places that are kept. -/
abbrev LX := List (Int × Int) × List Int
/-- The number at a place of a list; -1: there is none. -/
def atN (l : List UInt8) (i : Int) : Int := if 0 ≤ i ∧ 2 * i + 2 ≤ (l.length : Int) then (num l (2 * i.toNat) 2 : Nat) else -1
/-- The number of an action's last thirty bits, the highest of them below nought. -/
def offA (x : Nat) : Int := if 536870912 ≤ x % 1073741824 then (x % 1073741824 : Nat) - 1073741824 else (x % 1073741824 : Nat)
def pushK (ps : List Int) (i : Int) : List Int := if ps.getLast? = some i then ps else if 64 < (ps ++ [i]).length then (ps ++ [i]).drop 1 else ps ++ [i]
def goneL (l : List (Int × Int)) (gone : List Int) : List (Int × Int) := gone.foldl (fun l j => setG l j 65535) l
/-- Some glyphs become one. -/
def oneL (l : List (Int × Int)) (i id : Int) (gone : List Int) : List (Int × Int) := goneL (joinG (setG l i id) i gone) gone
def perfL (ac co li : List UInt8) : Nat → List (Int × Int) → List Int → Nat → Int → List Int → LX
  | 0, l, ps, _, _, _ => (l, ps)
  | n + 1, l, ps, k, sum, gone =>
    match ps.getLast? with
    | none => (l, ps)
    | some i =>
      if atN co ((atG l i).1 + offA (num ac (4 * k) 4)) < 0 then (l, ps.dropLast)
      else if 2147483648 ≤ num ac (4 * k) 4 ∨ num ac (4 * k) 4 / 1073741824 % 2 = 1 then
        (if atN li (sum + atN co ((atG l i).1 + offA (num ac (4 * k) 4))) < 0 then (l, ps.dropLast)
        else if 2147483648 ≤ num ac (4 * k) 4 then (oneL l i (atN li (sum + atN co ((atG l i).1 + offA (num ac (4 * k) 4)))) gone, pushK ps.dropLast i)
        else perfL ac co li n (oneL l i (atN li (sum + atN co ((atG l i).1 + offA (num ac (4 * k) 4)))) gone) ps.dropLast (k + 1) (sum + atN co ((atG l i).1 + offA (num ac (4 * k) 4))) [i])
      else perfL ac co li n l ps.dropLast (k + 1) (sum + atN co ((atG l i).1 + offA (num ac (4 * k) 4))) (gone ++ [i])
def keepL (x : LX) (z F : Nat) : List Int := if 32768 ≤ F ∧ z < x.1.length then pushK x.2 (z : Nat) else x.2
def actL (ac co li : List UInt8) (x : LX) (z : Nat) (e : Ent) : LX × Int × Int :=
  (if e.2.1 / 8192 % 2 = 1 then perfL ac co li (keepL x z e.2.1).length x.1 (keepL x z e.2.1) e.2.2.1 0 [] else (x.1, keepL x z e.2.1), (z : Int), (z : Int) + 1)
/-- What such a subtable does to a line. -/
def ligD (bs : List UInt8) (rs : List RP) (ac co li : List UInt8) (l : List (Int × Int)) : LX × Nat × Nat := runD (fun x z => clD bs rs x.1 z) (enM bs 1) (fun x z => decide (x.1.length ≤ z)) (actL ac co li) (2 * l.length + 128) (l, []) 0 0 0 1

theorem offA_le (x : Nat) : -536870912 ≤ offA x ∧ offA x ≤ 536870911 := by
  unfold offA
  split <;> omega
theorem atN_le (l : List UInt8) (i : Int) : -1 ≤ atN l i ∧ atN l i ≤ 65535 := by
  unfold atN
  split
  · have := num2_lt l (2 * i.toNat)
    omega
  · omega
theorem goneL_length : ∀ (gone : List Int) (l : List (Int × Int)), (goneL l gone).length = l.length
  | [], l => rfl
  | j :: gone, l => (goneL_length gone (setG l j 65535)).trans (setG_length l j 65535)
theorem oneL_length (l : List (Int × Int)) (i id : Int) (gone : List Int) : (oneL l i id gone).length = l.length := by
  unfold oneL
  rw [goneL_length, joinG_length, setG_length]
theorem perfL_length (ac co li : List UInt8) : ∀ n l ps k sum gone, (perfL ac co li n l ps k sum gone).1.length = l.length := by
  intro n
  induction n with
  | zero => intro l ps k sum gone; rfl
  | succ n ih =>
    intro l ps k sum gone
    unfold perfL
    split
    · rfl
    split
    · rfl
    split
    · split
      · rfl
      split
      · exact oneL_length _ _ _ _
      · rw [ih, oneL_length]
    · exact ih _ _ _ _ _
/-- What holds of a line, and stays where glyphs become one, stays. -/
theorem perfL_keeps (P : List (Int × Int) → Prop) (hP : ∀ l i id gone, P l → 0 ≤ id → id ≤ 65535 → P (oneL l i id gone)) (ac co li : List UInt8) : ∀ n l ps k sum gone, P l → P (perfL ac co li n l ps k sum gone).1 := by
  intro n
  induction n with
  | zero => intro l ps k sum gone h; exact h
  | succ n ih =>
    intro l ps k sum gone h
    unfold perfL
    split
    · exact h
    split
    · exact h
    split
    · split
      · exact h
      rename_i hid
      split
      · exact hP _ _ _ _ h (by omega) (atN_le _ _).2
      · exact ih _ _ _ _ _ (hP _ _ _ _ h (by omega) (atN_le _ _).2)
    · exact ih _ _ _ _ _ h
theorem setG_ids {l : List (Int × Int)} (h : IdsOk l) (z x : Int) (h1 : -9223372036854775808 ≤ x) (h2 : x ≤ 9223372036854775807) : IdsOk (setG l z x) := by
  unfold setG
  split
  · intro p hp
    rcases List.mem_or_eq_of_mem_set hp with hp | rfl
    · exact h p hp
    · exact ⟨h1, h2⟩
  · exact h
theorem joinG_ids {l : List (Int × Int)} (h : IdsOk l) (z : Int) (ks : List Int) : IdsOk (joinG l z ks) := by
  unfold joinG
  split
  · rename_i hz
    obtain ⟨i, q, rfl, hq⟩ := inG_yes hz
    intro p hp
    rcases List.mem_or_eq_of_mem_set hp with hp | rfl
    · exact h p hp
    · rw [atG_of hq]
      exact h q (List.mem_of_getElem? hq)
  · exact h
theorem goneL_ids : ∀ (gone : List Int) (l : List (Int × Int)), IdsOk l → IdsOk (goneL l gone)
  | [], _, h => h
  | j :: gone, l, h => goneL_ids gone _ (setG_ids h j 65535 (by decide) (by decide))
theorem oneL_ids (l : List (Int × Int)) (i id : Int) (gone : List Int) (h : IdsOk l) (h1 : 0 ≤ id) (h2 : id ≤ 65535) : IdsOk (oneL l i id gone) :=
  goneL_ids gone _ (joinG_ids (setG_ids h i id (by omega) (by omega)) i gone)
/-- Places that are kept are places of the line, no more than sixty-four. -/
def KeptL (n : Nat) (ps : List Int) : Prop := ps.length ≤ 64 ∧ ∀ i ∈ ps, 0 ≤ i ∧ i < (n : Int)
theorem pushK_kept {n : Nat} {ps : List Int} {i : Int} (h : KeptL n ps) (hi : 0 ≤ i ∧ i < (n : Int)) : KeptL n (pushK ps i) := by
  have hm : ∀ j ∈ ps ++ [i], 0 ≤ j ∧ j < (n : Int) := by
    intro j hj
    rcases List.mem_append.1 hj with hj | hj
    · exact h.2 j hj
    · simp at hj
      subst hj
      exact hi
  have hl := h.1
  unfold pushK
  split
  · exact h
  split
  · exact ⟨by simp only [List.length_drop, List.length_append, List.length_singleton]; omega, fun j hj => hm j (List.mem_of_mem_drop hj)⟩
  · rename_i hn
    exact ⟨by omega, hm⟩
theorem kept_dropLast {n : Nat} {ps : List Int} (h : KeptL n ps) : KeptL n ps.dropLast :=
  ⟨by have := h.1; rw [List.length_dropLast]; omega, fun i hi => h.2 i (List.mem_of_mem_take (by rwa [List.dropLast_eq_take] at hi))⟩
theorem perfL_kept (ac co li : List UInt8) (N : Nat) : ∀ n l ps k sum gone, KeptL N ps → KeptL N (perfL ac co li n l ps k sum gone).2 := by
  intro n
  induction n with
  | zero => intro l ps k sum gone h; exact h
  | succ n ih =>
    intro l ps k sum gone h
    unfold perfL
    split
    · exact h
    rename_i i hi
    have hm := h.2 i (List.mem_of_getLast? hi)
    split
    · exact kept_dropLast h
    split
    · split
      · exact kept_dropLast h
      split
      · exact pushK_kept (kept_dropLast h) hm
      · exact ih _ _ _ _ _ (kept_dropLast h)
    · exact ih _ _ _ _ _ (kept_dropLast h)
/-- Without Perform, or without Push, the line stays. -/
theorem perfL_nil (ac co li : List UInt8) (n : Nat) (l : List (Int × Int)) (k : Nat) (sum : Int) (gone : List Int) : perfL ac co li n l [] k sum gone = (l, []) := by
  cases n <;> rfl
def IdlesL (which : Bool) (F : Nat) : Prop := if which then F / 8192 % 2 = 0 else F < 32768
theorem actL_idle (which : Bool) (ac co li : List UInt8) (x : LX) (z : Nat) (e : Ent) (h : IdlesL which e.2.1) (hx : which = false → x.2 = []) : (actL ac co li x z e).1.1 = x.1 ∧ (which = false → (actL ac co li x z e).1.2 = []) := by
  unfold actL IdlesL at *
  cases which with
  | true =>
    rw [if_pos rfl] at h
    rw [if_neg (by omega)]
    exact ⟨rfl, fun h => by cases h⟩
  | false =>
    rw [if_neg (by decide)] at h
    have hk : keepL x z e.2.1 = [] := by
      unfold keepL
      rw [if_neg (by omega)]
      exact hx rfl
    rw [hk]
    split
    · rw [perfL_nil]
      exact ⟨rfl, fun _ => rfl⟩
    · exact ⟨rfl, fun _ => rfl⟩
end Go.Proofs.Ythehcbbdkiomnaa
end
section

/- Layer 17: of however many glyphs that are kept one behind the other, no more than sixty-four become one. No walk; what the bytes tell of the machine and its lists is laid down as it is asked for. -/
namespace Go.Proofs.Ythehcbbdkiomnaa
open Go.RowKit Go.Lib

end Go.Proofs.Ythehcbbdkiomnaa
end
section

/- What a subtable of layer 18 does to a line, as lists: what is put, where the mark and the step's own glyph come to stand, how many are left. No walk: the line's own glyphs stay, in their order; as many more as it says, and no more than may be; with just as many left it is the same, with fewer it runs out; without lists it stays. -/
namespace Go.Proofs.Ythehcbbdkiomnaa
open Go.RowKit Go.Lib

/-- A line, the mark, how many are put, and whether there were too few left. -/
abbrev IX := List (Int × Int) × Int × Nat × Bool
def hereI (e : Ent) : Nat := if e.2.2.1 = 65535 then 0 else e.2.1 / 32 % 32
def markI (e : Ent) : Nat := if e.2.2.2 = 65535 then 0 else e.2.1 % 32
def idsI (li : List UInt8) (k n : Nat) : List Int := (List.range n).map fun i => ((num li (2 * (k + i)) 2 : Nat) : Int)
/-- Behind what is put at the mark: the line, the place of the own glyph, and the mark. -/
def putM (li : List UInt8) (l : List (Int × Int)) (mark : Int) (z : Nat) (e : Ent) (mk : Nat) : List (Int × Int) × Nat × Int :=
  if mk = 0 then (l, z, mark)
  else if e.2.1 / 1024 % 2 = 1 then (insG l mark (idsI li e.2.2.2 mk), if (z : Int) < mark then z else z + mk, mark + mk)
  else (insG l (mark + 1) (idsI li e.2.2.2 mk), if mark < (z : Int) then z + mk else z, mark)
/-- Behind what is put at the place: the line, where its own glyph stands, and the mark. -/
def putH (li : List UInt8) (l : List (Int × Int)) (mark : Int) (i : Nat) (e : Ent) (hr : Nat) : List (Int × Int) × Nat × Int :=
  if hr = 0 then (l, i, mark)
  else if e.2.1 / 2048 % 2 = 1 then (insG l (i : Nat) (idsI li e.2.2.1 hr), i + hr, if (i : Int) ≤ mark then mark + hr else mark)
  else (insG l (min (i + 1) l.length : Nat) (idsI li e.2.2.1 hr), i, if (i : Int) < mark then mark + hr else mark)
def actI (li : List UInt8) (left : Nat) (x : IX) (z : Nat) (e : Ent) : IX × Int × Int :=
  if x.2.2.2 = true then (x, (z : Int), (z : Int) + 1) else
  let mk := if x.2.1 < 0 then 0 else markI e
  if 0 < mk ∧ left < x.2.2.1 + mk then ((x.1, x.2.1, x.2.2.1, true), (z : Int), (z : Int) + 1) else
  let m := putM li x.1 x.2.1 z e mk
  let hr := hereI e
  if 0 < hr ∧ left < x.2.2.1 + mk + hr then ((m.1, m.2.2, x.2.2.1 + mk, true), (m.2.1 : Int), (m.2.1 : Int) + 1) else
  let h := putH li m.1 m.2.2 m.2.1 e hr
  ((h.1, if 32768 ≤ e.2.1 ∧ m.2.1 < m.1.length then (h.2.1 : Int) else h.2.2, x.2.2.1 + mk + hr, false), (m.2.1 : Int), (m.2.1 : Int) + hr + 1)
def insD (bs : List UInt8) (rs : List RP) (li : List UInt8) (left : Nat) (l : List (Int × Int)) : IX × Nat × Nat := runD (fun x z => clD bs rs x.1 z) (enM bs 2) (fun x z => decide (x.1.length ≤ z)) (actI li left) (2 * l.length + 128) (l, -1, 0, false) 0 0 0 1

/-- Without lists the line stays, and nothing is put. -/
theorem actI_none (li : List UInt8) (left : Nat) (x : IX) (z : Nat) (e : Ent) (hA : e.2.2.1 = 65535) (hB : e.2.2.2 = 65535) : (actI li left x z e).1.1 = x.1 ∧ (actI li left x z e).1.2.2 = x.2.2 := by
  have h1 : hereI e = 0 := by unfold hereI; rw [if_pos hA]
  have h2 : (if x.2.1 < 0 then 0 else markI e) = 0 := by
    have : markI e = 0 := by unfold markI; rw [if_pos hB]
    rw [this]
    split <;> rfl
  unfold actI
  simp only [h1, h2]
  split
  · exact ⟨rfl, rfl⟩
  rename_i hx
  rw [if_neg (by omega), if_neg (by omega)]
  have h3 : (putM li x.1 x.2.1 z e 0) = (x.1, z, x.2.1) := by unfold putM; rw [if_pos rfl]
  rw [h3]
  have h4 : ∀ i m, (putH li x.1 m i e 0) = (x.1, i, m) := fun i m => by unfold putH; rw [if_pos rfl]
  rw [h4]
  refine ⟨rfl, ?_⟩
  obtain ⟨l, m, d, o⟩ := x
  cases o with
  | true => exact absurd rfl hx
  | false => rfl
end Go.Proofs.Ythehcbbdkiomnaa
end
section

/- What a subtable of layer 17, or 18, is, as its bytes tell it; and the plan that makes one glyph of two: what its bytes tell, and what it does to a line of glyphs 0 and a last one 1. No walk. Conditions: actions of four bytes, no more than two hundred. -/
namespace Go.Proofs.Ythehcbbdkiomnaa
open Go.RowKit Go.Lib

/-- Such a subtable, as its bytes tell it: layer 17. -/
structure JOk (bs : List UInt8) (glyphs : Nat) (rs : List RP) (S : Nat) : Prop where
  mok : MOk bs glyphs 1 rs S
  l28 : 28 ≤ bs.length
  at_ : num bs 16 4 ≤ bs.length ∧ num bs 20 4 ≤ bs.length ∧ num bs 24 4 ≤ bs.length
  acts : ∀ j, j < needE bs S → (entX (bs.drop (num bs 12 4)) 1 j).2.1 / 8192 % 2 = 1 → ∃ k, (entX (bs.drop (num bs 12 4)) 1 j).2.2.1 ≤ k ∧ num bs 16 4 + 4 * k + 4 ≤ bs.length ∧ 2147483648 ≤ num bs (num bs 16 4 + 4 * k) 4
theorem JOk.det {bs : List UInt8} {glyphs : Nat} {r1 r2 : List RP} {S1 S2 : Nat} (h1 : JOk bs glyphs r1 S1) (h2 : JOk bs glyphs r2 S2) : r1 = r2 ∧ S1 = S2 := h1.mok.det h2.mok
def planP : PlanL := ⟨[4, 5], [[0, 0, 0, 0, 1, 2], [0, 0, 0, 0, 1, 2]], [(0, 0, 0, 0), (0, 32768, 0, 0), (0, 40960, 0, 0)], 2⟩
def headP : List UInt8 := planB planP 1 12
theorem headP_length : headP.length = 80 := by decide
def pairB (acts : List Nat) : List UInt8 := ligB planP acts [0, 1] [8, 9]
theorem pairB_length (acts : List Nat) : (pairB acts).length = 88 + 4 * acts.length := by
  have := ligB_length (p := planP) acts [0, 1] [8, 9]
  have h : (planB planP 1 12).length = 80 := headP_length
  rw [h] at this
  simp only [List.length_cons, List.length_nil] at this
  unfold pairB
  omega
section
variable (acts : List Nat)
theorem pairN (k s : Nat) (hk : k + s ≤ 16 ∨ 28 ≤ k) (h : k + s ≤ 80) : num (pairB acts) k s = num headP k s := ligB_num acts [0, 1] [8, 9] k s hk (by have : (planB planP 1 12).length = 80 := headP_length; omega)
theorem pair0 : num (pairB acts) 0 4 = 6 := by rw [pairN acts 0 4 (by decide) (by decide)]; decide
theorem pair4 : num (pairB acts) 4 4 = 28 := by rw [pairN acts 4 4 (by decide) (by decide)]; decide
theorem pair8 : num (pairB acts) 8 4 = 38 := by rw [pairN acts 8 4 (by decide) (by decide)]; decide
theorem pair12 : num (pairB acts) 12 4 = 62 := by rw [pairN acts 12 4 (by decide) (by decide)]; decide
theorem pairEnt (i : Nat) (h : i < 12) : entN (pairB acts) i = if i % 6 < 4 then 0 else i % 6 - 3 := by
  unfold entN
  rw [pair8, pairN acts _ 2 (by omega) (by omega)]
  have : ∀ i, i < 12 → num headP (38 + 2 * i) 2 = if i % 6 < 4 then 0 else i % 6 - 3 := by decide
  exact this i h
theorem pairNext (j : Nat) (h : j < 3) : nextN (pairB acts) 1 j = 0 := by
  unfold nextN
  rw [pair12, pairN acts _ 2 (by omega) (by omega)]
  have : ∀ j, j < 3 → num headP (62 + j * (4 + 2 * 1)) 2 = 0 := by decide
  exact this j h
theorem pairNeed : needE (pairB acts) 2 = 3 := by
  unfold needE
  rw [pair0]
  have h1 : needL (entN (pairB acts)) 12 ≤ 3 := needL_le fun i hi => by
    rw [pairEnt acts i hi]
    split <;> omega
  have h2 := needL_lt (f := entN (pairB acts)) (show 5 < 12 by decide)
  rw [pairEnt acts 5 (by decide)] at h2
  show needL (entN (pairB acts)) 12 = 3
  simp at h2
  omega
theorem pairX (j : Nat) (h : j < 3) : entX ((pairB acts).drop (num (pairB acts) 12 4)) 1 j = (0, if j = 0 then 0 else if j = 1 then 32768 else 40960, 0, 0) := by
  unfold entX
  rw [pair12]
  simp only [num_dropS]
  rw [pairN acts _ 2 (by omega) (by omega), pairN acts _ 2 (by omega) (by omega), pairN acts _ 2 (by omega) (by omega)]
  have : ∀ j, j < 3 → num headP (62 + j * (4 + 2 * 1)) 2 = 0 ∧ num headP (62 + (j * (4 + 2 * 1) + 2)) 2 = (if j = 0 then 0 else if j = 1 then 32768 else 40960) ∧ num headP (62 + (j * (4 + 2 * 1) + 4)) 2 = 0 := by decide
  obtain ⟨h1, h2, h3⟩ := this j h
  rw [h1, h2, h3]
  rfl
def rsP : List RP := rowsT 0 2 6 2
theorem pairLk (glyphs : Nat) : LkOk ((pairB acts).drop (num (pairB acts) 4 4)) glyphs 2 rsP := by
  have hl := pairB_length acts
  have hn : ∀ k, k + 2 ≤ 52 → num ((pairB acts).drop 28) k 2 = num headP (28 + k) 2 := fun k hk => by rw [num_dropS, pairN acts _ 2 (by omega) (by omega)]
  rw [pair4]
  have n1 : num ((pairB acts).drop 28) 0 2 = 8 := by rw [hn 0 (by decide)]; decide
  have n2 : num ((pairB acts).drop 28) 2 2 = 0 := by rw [hn 2 (by decide)]; decide
  have n3 : num ((pairB acts).drop 28) 4 2 = 2 := by rw [hn 4 (by decide)]; decide
  have := LkRows.eight (bs := (pairB acts).drop 28) (glyphs := glyphs) (size := 2) (by rw [List.length_drop, hl]; omega) n1 (by omega)
  rw [n2, n3] at this
  exact ⟨this, (ok_rowsT _ _ _ _ _ (by rw [List.length_drop, hl]; omega)).2 (by rw [List.length_drop, hl]; omega)⟩
theorem pairMOk (glyphs : Nat) : MOk (pairB acts) glyphs 1 rsP 2 := by
  have hl := pairB_length acts
  refine ⟨by rw [hl]; omega, by rw [pair0]; decide, by rw [pair4, hl]; omega, pairLk acts glyphs, by rw [pair8, hl]; omega, by rw [pair12, hl]; omega, ⟨⟨by decide, ?_⟩, fun S' h => h.1⟩, by rw [pair0, pair8, hl]; omega, by rw [pairNeed, pair12, hl]; omega⟩
  rw [pairNeed]
  exact needL_le fun i hi => by rw [pairNext acts i hi]; decide
theorem pairAt (h : acts.length ≤ 1000) : (num (pairB acts) 16 4 = 80 ∧ num (pairB acts) 20 4 = 80 + 4 * acts.length ∧ num (pairB acts) 24 4 = 84 + 4 * acts.length) ∧ (pairB acts).drop 80 = longs acts ++ (vals16 [0, 1] ++ vals16 [8, 9]) ∧ (pairB acts).drop (80 + 4 * acts.length) = vals16 [0, 1] ++ vals16 [8, 9] ∧ (pairB acts).drop (84 + 4 * acts.length) = vals16 [8, 9] := by
  have hp : (planB planP 1 12).length = 80 := headP_length
  have := ligB_lists (p := planP) acts [0, 1] [8, 9] (by simp only [List.length_cons, List.length_nil]; omega)
  rw [hp] at this
  simp only [List.length_cons, List.length_nil] at this
  obtain ⟨⟨a1, a2, a3⟩, d1, d2, d3⟩ := this
  refine ⟨⟨a1, a2, by unfold pairB; rw [a3]; omega⟩, d1, d2, ?_⟩
  have e : 84 + 4 * acts.length = 80 + 4 * acts.length + 2 * (0 + 1 + 1) := by omega
  rw [e]
  exact d3
theorem pairAct (h : acts.length ≤ 1000) (hx : ∀ x ∈ acts, x < 4294967296) (k : Nat) (hk : k < acts.length) : num ((pairB acts).drop (num (pairB acts) 16 4)) (4 * k) 4 = acts.getD k 0 := by
  obtain ⟨⟨a1, _, _⟩, d1, _, _⟩ := pairAt acts h
  rw [a1, d1, numL _ _ _ _ (by rw [longs_length]; omega), longs_num acts k hx hk]
theorem pairJOk (glyphs : Nat) (h : acts.length ≤ 1000) (hx : ∀ x ∈ acts, x < 4294967296) (k : Nat) (hk : k < acts.length) (hlast : 2147483648 ≤ acts.getD k 0) : JOk (pairB acts) glyphs rsP 2 := by
  have hl := pairB_length acts
  obtain ⟨⟨a1, a2, a3⟩, _, _, _⟩ := pairAt acts h
  refine ⟨pairMOk acts glyphs, by omega, ⟨by omega, by omega, by omega⟩, fun j hj _ => ⟨k, ?_, by omega, ?_⟩⟩
  · rw [pairNeed] at hj
    rw [pairX acts j hj]
    exact Nat.zero_le _
  · rw [← num_dropS, pairAct acts h hx k hk]
    exact hlast
end
end Go.Proofs.Ythehcbbdkiomnaa
end
section

/- Subtables of layers 17 and 18 whose entries do nothing: the line stays. No walk; conditions: the entries that the machine needs are such. -/
namespace Go.Proofs.Ythehcbbdkiomnaa
open Go.RowKit Go.Lib

/-- What stays at each step that a machine can take stays. -/
theorem runD_stay2 {X : Type} (P : X → Prop) (S C : Nat) {cl : X → Nat → Nat} {en : Nat → Nat → Ent} {fin : X → Nat → Bool} {act : X → Nat → Ent → X × Int × Int} (hC : ∀ x z, cl x z < C) (hE : ∀ s c, s < S → c < C → (en s c).1 < S) (hs : ∀ x z s c, P x → s < S → c < C → P (act x z (en s c)).1) : ∀ fu x now z re st, now < S → P x → P (runD cl en fin act fu x now z re st).1 := by
  intro fu
  induction fu with
  | zero => intro x now z re st _ h; exact h
  | succ fu ih =>
    intro x now z re st hn h
    unfold runD
    dsimp only
    have h1 := hs x z now (cl x z) h hn (hC x z)
    have h2 := hE now (cl x z) hn (hC x z)
    split
    · split
      · exact h1
      · exact ih _ _ _ _ _ h2 h1
    · split
      · exact h1
      · exact ih _ _ _ _ _ h2 h1
theorem insD_none {bs : List UInt8} {rs : List RP} {S : Nat} (hok : MOk bs 40 2 rs S) (hF : ∀ j, j < needE bs S → (entX (bs.drop (num bs 12 4)) 2 j).2.2.1 = 65535 ∧ (entX (bs.drop (num bs 12 4)) 2 j).2.2.2 = 65535) (li : List UInt8) (left : Nat) (l : List (Int × Int)) : (insD bs rs li left l).1.1 = l ∧ (insD bs rs li left l).1.2.2 = (0, false) := by
  have hC4 : 4 ≤ num bs 0 4 := hok.cls.1
  have hS : 0 < S := by have := hok.least.closed.1; omega
  unfold insD
  refine runD_stay2 (fun x : IX => x.1 = l ∧ x.2.2 = (0, false)) S (num bs 0 4) (fun x z => clD_lt _ _ _ _ hC4) (fun s c hs hc => enM_next bs 2 hok hs hc) ?_ _ _ _ _ _ _ hS ⟨rfl, rfl⟩
  intro x z s c ⟨hx, h0⟩ hs hc
  obtain ⟨hA, hB⟩ := hF _ (ent_in hs hc)
  have := actI_none li left x z (enM bs 2 s c) hA hB
  exact ⟨this.1.trans hx, this.2.trans h0⟩
theorem ligD_idle {bs : List UInt8} {rs : List RP} {S : Nat} (which : Bool) (hok : MOk bs 40 1 rs S) (hF : ∀ j, j < needE bs S → IdlesL which (entX (bs.drop (num bs 12 4)) 1 j).2.1) (ac co li : List UInt8) (l : List (Int × Int)) : (ligD bs rs ac co li l).1.1 = l := by
  have hC4 : 4 ≤ num bs 0 4 := hok.cls.1
  have hS : 0 < S := by have := hok.least.closed.1; omega
  have key : (ligD bs rs ac co li l).1.1 = l ∧ (which = false → (ligD bs rs ac co li l).1.2 = []) := by
    unfold ligD
    refine runD_stay2 (fun x : LX => x.1 = l ∧ (which = false → x.2 = [])) S (num bs 0 4) (fun x z => clD_lt _ _ _ _ hC4) (fun s c hs hc => enM_next bs 1 hok hs hc) ?_ _ _ _ _ _ _ hS ⟨rfl, fun _ => rfl⟩
    intro x z s c ⟨hx, h0⟩ hs hc
    have := actL_idle which ac co li x z (enM bs 1 s c) (hF _ (ent_in hs hc)) h0
    exact ⟨this.1.trans hx, this.2⟩
  exact key.1
end Go.Proofs.Ythehcbbdkiomnaa
end
section

/- drive.Run, with any act that is a function of the program's: a machine goes along a line, whatever the act does by its own contract; what is known at each step may hang on the place. Conditions: a machine and a line in memory; the act keeps the machine, and what else is known; places are below 900000001. -/
namespace Go.Proofs.Ythehcbbdkiomnaa
open Go.RowKit Go.Lib

end Go.Proofs.Ythehcbbdkiomnaa
end
section

/- WholeGrows along a line: a subtable of layer 18 puts a glyph behind each; a subtable of layer 17 makes one of each and the one that was put. No walk; what the bytes tell is laid down as it is asked for. -/
namespace Go.Proofs.Ythehcbbdkiomnaa
open Go.RowKit Go.Lib

end Go.Proofs.Ythehcbbdkiomnaa
end
section

/- The plans of layer 18's first question and of WholeGrows: what their bytes tell. No walk, no condition. -/
namespace Go.Proofs.Ythehcbbdkiomnaa
open Go.RowKit Go.Lib

end Go.Proofs.Ythehcbbdkiomnaa
end
section

/- What an argument that is a plan of a machine and lookups is; the contract of law 15's small. Conditions: as each says. -/
namespace Go.Proofs.Ythehcbbdkiomnaa
section
open Go.ChangeShapes Go.WideShapes Go.ChangeAt Go.RowKit
variable {H : Type} {enc : TypeId × Value → H}
theorem open_u16C {P : Program} {W : World} {t e : TypeId} {f : Nat} {v : Value} {y : DataW H × List MemPlace} (ht : P.underlying t = some (.slice e)) (he : P.underlying e = some (.int .u16))
    (h : DataW.trod enc P W 0 (fun _ => true) true f t [v] = some y) : ∃ (a : Option Addr) (c : Nat) (ss : List Nat), v = .slice a ss.length c ∧ Has W a (u16V ss) ∧ ∀ x ∈ ss, x ≤ 65535 := by
  obtain ⟨a, n, c, us, rfl, hl, _, _, _, hh, hx⟩ := open_rows_cell ht h
  have key : ∀ us : List (List Value), (∀ x ∈ us, ∃ m y, DataW.trod enc P W 0 (fun _ => true) true m e x = some y) → ∃ ss : List Nat, ss.length = us.length ∧ us.flatten = u16V ss ∧ ∀ x ∈ ss, x ≤ 65535 := by
    intro us
    induction us with
    | nil => exact fun _ => ⟨[], rfl, rfl, fun x hx => by cases hx⟩
    | cons x us ih =>
      intro h
      obtain ⟨ss, h1, h2, h3⟩ := ih (fun y hy => h y (by simp [hy]))
      obtain ⟨m, y, hy⟩ := h x (by simp)
      obtain ⟨z, rfl, _, hw⟩ := DataW.trod_int he hy
      obtain ⟨k, rfl, hk⟩ := wf_u16 hw
      refine ⟨k :: ss, by simp [h1], by simp [h2, u16V], fun x hx => ?_⟩
      rcases List.mem_cons.1 hx with rfl | hx
      · exact hk
      · exact h3 x hx
  obtain ⟨ss, h1, h2, h3⟩ := key us (fun x hx' => (hx x hx').2)
  exact ⟨a, c, ss, by rw [h1, hl], h2 ▸ hh, h3⟩
set_option maxRecDepth 100000 in
theorem open_planCells {W : World} {f : Nat} {v0 v1 v2 v3 : Value} {y : DataW H × List MemPlace} (h : DataW.trod enc Try.prog W 0 (fun _ => true) true f 51 [v0, v1, v2, v3] = some y) :
    ∃ (p : PlanL) (aC aR aE : Option Addr) (rv : List Value) (cC cR cE : Nat), v0 = .slice aC p.cls.length cC ∧ v1 = .slice aR p.rows.length cR ∧ v2 = .slice aE p.ents.length cE ∧ v3 = .int .u8 (p.wide.toNat : Nat) ∧ PlanHas W p aC aR rv aE ∧ (∀ e ∈ p.ents, wfI e.1 ∧ wfI e.2.1 ∧ wfI e.2.2.1 ∧ wfI e.2.2.2) ∧ (aE = none → cE = 0) := by
  obtain ⟨y0, y1, y2, y3, n, _, _, h0, h1, h2, h3⟩ := Go.Joins.trod_struct4 Try.underlying51 h
  change DataW.trod enc Try.prog W 0 (fun _ => true) true n 22 [v0] = some y0 at h0
  change DataW.trod enc Try.prog W 0 (fun _ => true) true n 48 [v1] = some y1 at h1
  change DataW.trod enc Try.prog W 0 (fun _ => true) true n 49 [v2] = some y2 at h2
  change DataW.trod enc Try.prog W 0 (fun _ => true) true n 5 [v3] = some y3 at h3
  obtain ⟨aC, cC, bs, rfl, hC⟩ := open_bytesC Try.underlying22 Try.underlying5 h0
  obtain ⟨aR, cR, l, rv, rfl, hR, hRl, hRr⟩ := open_rowsC Try.underlying48 Try.underlying22 Try.underlying5 (by kernel_rfl) h1
  obtain ⟨aE, cE, es, rfl, hE, hE0, hEw⟩ := open_entsC Try.underlying49 Try.underlying59 Try.underlying3 Try.underlying3 Try.underlying3 Try.underlying3 rfl rfl rfl rfl (by kernel_rfl) (by kernel_rfl) (by kernel_rfl) (by kernel_rfl) (by kernel_rfl) h2
  obtain ⟨z, e0, _, hw⟩ := DataW.trod_int Try.underlying5 h3
  obtain ⟨k, rfl, hk⟩ := wf_u8 hw
  injection e0 with e0
  subst e0
  have e1 : ((UInt8.ofNat k).toNat : Int) = k := by simp; omega
  refine ⟨⟨bs, l, es, UInt8.ofNat k⟩, aC, aR, aE, rv, cC, cR, cE, rfl, rfl, rfl, ?_, ⟨hC, hR, hRl, hRr, hE⟩, hEw, hE0⟩
  rw [e1]
end

open Go.RowKit Go.Lib
end Go.Proofs.Ythehcbbdkiomnaa
end
