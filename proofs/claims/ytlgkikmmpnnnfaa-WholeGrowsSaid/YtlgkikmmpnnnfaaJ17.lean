/- Joined from: CWrite XRun XRead CEight DEnt DBits DSpec KSwap KSpec KRead KLaw KReadW CMap CList CAsk CTake DRef DWay KRef DRun CRun CRead CSpk KRun CIdleP XBytes XLig XLong XIns XPair XGrow XPut XStay. -/
import Derived.Test.YtlgkikmmpnnnfaaJ12
import Derived.Test.YtlgkikmmpnnnfaaJ04
import Derived.Test.YtlgkikmmpnnnfaaJ03
import Derived.Test.YtlgkikmmpnnnfaaJ13
import Derived.Test.YtlgkikmmpnnnfaaJ08
import Derived.Test.YtlgkikmmpnnnfaaJ01
import Derived.Test.YtlgkikmmpnnnfaaJ11
import Derived.Deep.WholeRow
import Derived.Maps.OwnOps
import Derived.Maps.OwnSet
section

/- The bytes of a subtable of layer 15 as its law writes them: swashlaw15.Write. Conditions: a machine's plan and lookups in memory; sizes. -/
namespace Go.Proofs.Ytlgkikmmpnnnfaa
open Go.RowKit Go.Lib

/-- A lookup of glyphs from 0 on, in a row. -/
def vals16 (l : List Nat) : List UInt8 := l.flatMap fun x => beN 2 x
theorem vals16_length (l : List Nat) : (vals16 l).length = 2 * l.length := by
  induction l with
  | nil => rfl
  | cons x l ih => simp only [vals16, List.flatMap_cons, List.length_append, beN_length, List.length_cons] at *; omega
theorem vals16_snoc (l : List Nat) (q : Nat) (h : q < l.length) : vals16 (l.take (q + 1)) = vals16 (l.take q) ++ beN 2 (l.getD q 0) := by
  unfold vals16
  rw [List.take_add_one, List.flatMap_append, List.getElem?_eq_getElem h, List.getD_eq_getElem?_getD, List.getElem?_eq_getElem h]
  simp
theorem splice_take {α : Type} (L cs : List α) (o n : Nat) (h : o + cs.length ≤ n) (hn : n ≤ L.length) : (splice L o cs).take n = splice (L.take n) o cs := by
  unfold splice
  rw [List.take_append, List.take_append, List.take_take, List.take_take, List.length_take, Nat.min_eq_left (by omega : o ≤ L.length), Nat.min_eq_right (by omega : o ≤ n), Nat.min_eq_left (by omega : o ≤ n), List.take_of_length_le (by omega : cs.length ≤ n - o), List.drop_take, Nat.sub_sub]
/-- 'copy' into the middle of a row of the call's own. -/
theorem wpCopyRow {P : Program} {w : World} {o : Oper} {a : Act} {K : Act → World → Prop} {Q : Exit → Act → World → Prop} (d s : Operand) (dT sT : TypeId)
    (ho : o.op = .call { callee := .builtin .copy, args := #[d, s], argTypes := #[dT, sT] }) (elem : TypeId) (hu : P.underlying dT = some (.slice elem)) (hsz : (P.info? elem).map (·.size) = some 1)
    (base g n c : Nat) (xs : List Value) (hown : w.ownsRow base elem 1 (.slice (some ⟨g, 0, none⟩) n c) n xs)
    (off dLen dCap : Nat) (ad : Addr) (sLen sCap : Nat) (hd : a.eval d = .slice (some ⟨g, off, none⟩) dLen dCap) (hs : a.eval s = .slice (some ad) sLen sCap)
    (cs : List Value) (hn : cs.length = Nat.min sLen dLen * 1) (hsrc : ∀ j v, cs[j]? = some v → w.cell? (ad.add j) = some v) (hfit : off + cs.length ≤ n) (h1 : ∀ v ∈ cs, v.oneCell' = true)
    (h : ∀ w', w'.ownsRow base elem 1 (.slice (some ⟨g, 0, none⟩) n c) n (splice xs off cs) → (∀ k, k ≠ g → w'.heap[k]? = w.heap[k]?) → w'.heap.size = w.heap.size → Below g w w' → K (a.put o.dst (goInt (Nat.min sLen dLen))) w') : o.wp P a w K Q := by
  rcases hown.2 with ⟨hv, _⟩ | ⟨b, cap, cur, hv, hg, hh, hnc, hm, hcs, hx⟩
  · cases hv
  · injection hv with e1 _ e3
    injection e1 with e1
    injection e1 with e1 _ _
    subst e1 e3
    have hl : xs.length = n := by have := hown.1; omega
    refine wpCopyO d s dT sT ho elem 1 hu hsz g off dLen dCap ad sLen sCap hd hs cur elem hh cs hn hsrc (by omega) h1 fun w' g1 g2 g3 g4 => h w' ⟨?_, .inr ⟨g, c, _, rfl, hg, g1, hnc, hm, ?_, ?_⟩⟩ g2 g3 g4
    · rw [length_splice xs off cs (by omega), hl]; omega
    · rw [List.size_toArray, length_splice cur.toList off cs (by rw [Array.length_toList (xs := cur)]; omega), Array.length_toList (xs := cur), hcs]
    · rw [Nat.mul_one] at hx ⊢
      rw [← hx]
      exact splice_take _ cs off n (by omega) (by rw [Array.length_toList (xs := cur)]; omega)
theorem u8_one : (Try.prog.info? 5).map (·.size) = some 1 := by kernel_rfl
theorem owns_some {w : World} {base e size n c : Nat} {a : Option Addr} {xs : List Value} (h : w.ownsRow base e size (.slice a n c) n xs) (h0 : 0 < n) : ∃ g, a = some ⟨g, 0, none⟩ ∧ base ≤ g ∧ g < w.heap.size := by
  rcases h.2 with ⟨hv, h1⟩ | ⟨g, _, _, hv, hg, hh, _⟩
  · omega
  · injection hv with hv _ _
    exact ⟨g, hv, hg, (Array.getElem?_eq_some_iff.1 hh).1⟩
theorem bytesV_splice (X D : List UInt8) (o : Nat) : splice (bytesV X) o (bytesV D) = bytesV (splice X o D) := by
  simp [splice, bytesV, List.map_take, List.map_drop]
end Go.Proofs.Ytlgkikmmpnnnfaa
end
section

/- A lookup's glyphs in the places of a line's: what Run of a subtable of single glyphs does. Conditions: a subtable and a line in memory; sizes. -/
namespace Go.Proofs.Ytlgkikmmpnnnfaa
open Go.RowKit Go.Lib

/-- What a change of a line's glyphs may touch: the line's row. -/
def ownS (bk : Option Nat) (k t : Nat) : Prop := t = 59 ∧ bk = some k
theorem ownBlockS (a : Option Addr) (n c : Nat) : (Value.slice a n c).ownBlock = a.map (·.block) := by cases a <;> rfl
theorem GStep.keepS {bk : Option Nat} {B g : Nat} {a : Option Addr} {c : Nat} {l l' : List (Int × Int)} {w w' : World} (h : GStep B g a a w w') (hg : GIs B g a c l w) (hg' : GIs B g a c l' w') (hl : l'.length = l.length) (hbk : a.map (·.block) = bk) (hz : w.heap.size ≤ w'.heap.size) : KeepC B (ownS bk) w w' := by
  refine ⟨h.below, hz, fun k cs t fz hk ho => ?_⟩
  by_cases e2 : k = g
  · subst e2
    rw [hg'.hd, hg.hd, hl]
  · refine h.keep k (Array.getElem?_eq_some_iff.1 hk).1 e2 ?_
    by_cases e : t = 59
    · intro h2; exact ho ⟨e, hbk.symm.trans h2.symm⟩
    · rw [← ownBlockS a l.length c]; exact own_neE hg.row hk e
theorem gset_keep (B g : Nat) (a : Option Addr) (c : Nat) (l : List (Int × Int)) (w : World) (h : GIs B g a c l w) (z x : Int) :
    Calls Try.prog 108 #[.pointer (some ⟨g, 0, none⟩), .int .i64 z, .int .i64 x] w fun e w' => e = .returned (.bool (inG l z)) ∧ GIs B g a c (setG l z x) w' ∧ KeepC B (ownS (a.map (·.block))) w w' := by
  refine (gset_any B g a c l w h z x).mono ?_
  rintro e w' ⟨he, h1, h2, h3⟩
  exact ⟨he, h1, h2.keepS h h1 (by split <;> simp) rfl (by omega)⟩
end Go.Proofs.Ytlgkikmmpnnnfaa
end
section

/- Read of a subtable of single glyphs, and what its law asks first. Conditions: bytes as the slice says. -/
namespace Go.Proofs.Ytlgkikmmpnnnfaa
open Go.RowKit Go.Lib

end Go.Proofs.Ytlgkikmmpnnnfaa
end
section

/- A lookup of glyphs from 0 on, in a row: what it is, and what it gives. Conditions: numbers of two bytes; no more than 65535 glyphs. -/
namespace Go.Proofs.Ytlgkikmmpnnnfaa
open Go.RowKit Go.Lib

end Go.Proofs.Ytlgkikmmpnnnfaa
end
section

/- What a plan's bytes tell of its entries' flags; entries as cells. No walk. -/
namespace Go.Proofs.Ytlgkikmmpnnnfaa
open Go.RowKit Go.Lib

end Go.Proofs.Ytlgkikmmpnnnfaa
end
section

/- Flags of an entry, as bits. Condition: numbers of two bytes. -/
namespace Go.Proofs.Ytlgkikmmpnnnfaa
open Go.RowKit

theorem bits_and (v m : Nat) (hv : v ≤ 65535) (hm : m ≤ 65535) : bits .and .i64 (v : Int) (m : Int) = ((v &&& m : Nat) : Int) := by
  have e : (BitVec.ofInt 64 (v : Int)).toNat = v := by rw [BitVec.toNat_ofInt]; omega
  have e2 : (BitVec.ofInt 64 (m : Int)).toNat = m := by rw [BitVec.toNat_ofInt]; omega
  have h : v &&& m ≤ v := Nat.and_le_left
  simp only [bits, BitVec.toNat_and]
  show IntKind.wrap .i64 (((BitVec.ofInt 64 (v : Int)).toNat &&& (BitVec.ofInt 64 (m : Int)).toNat : Nat) : Int) = _
  rw [e, e2, IntKind.wrap_i64]
  omega
theorem nat_and_pow (v k : Nat) : v &&& 2 ^ k = if v / 2 ^ k % 2 = 1 then 2 ^ k else 0 := by
  apply Nat.eq_of_testBit_eq
  intro i
  rw [Nat.testBit_and, Nat.testBit_two_pow]
  by_cases hi : k = i
  · subst hi
    by_cases hb : v / 2 ^ k % 2 = 1
    · rw [if_pos hb, Nat.testBit_two_pow, Nat.testBit_eq_decide_div_mod_eq, hb]; simp
    · rw [if_neg hb, Nat.testBit_eq_decide_div_mod_eq]; simp [hb]
  · split
    · rw [Nat.testBit_two_pow]; simp [hi]
    · simp [hi]
theorem flag_yes (v k : Nat) (hv : v ≤ 65535) (hk : 2 ^ k ≤ 65535) (z : Int) (hz : z = ((2 ^ k : Nat) : Int)) (h : v / 2 ^ k % 2 = 1) : bits .and .i64 (v : Int) z = z := by
  subst hz
  rw [bits_and _ _ hv hk, nat_and_pow, if_pos h]
theorem flag_no (v k : Nat) (hv : v ≤ 65535) (hk : 2 ^ k ≤ 65535) (z : Int) (hz : z = ((2 ^ k : Nat) : Int)) (h : ¬ v / 2 ^ k % 2 = 1) : bits .and .i64 (v : Int) z = 0 := by
  subst hz
  rw [bits_and _ _ hv hk, nat_and_pow, if_neg h]
  rfl
end Go.Proofs.Ytlgkikmmpnnnfaa
end
section

/- A machine on its way along a line, as a function; drive's classAt at any place. Conditions: a machine and a line in memory; sizes. -/
namespace Go.Proofs.Ytlgkikmmpnnnfaa
open Go.RowKit Go.Lib

/-- An entry: its next state, flags, and two words. -/
abbrev Ent := Nat × Nat × Nat × Nat
def entX (vb : List UInt8) (k j : Nat) : Ent := (num vb (j * (4 + 2 * k)) 2, num vb (j * (4 + 2 * k) + 2) 2, if 0 < k then num vb (j * (4 + 2 * k) + 4) 2 else 0, if 1 < k then num vb (j * (4 + 2 * k) + 6) 2 else 0)
def entV4 (e : Ent) : Value := .agg #[.int .i64 (e.1 : Nat), .int .i64 (e.2.1 : Nat), .int .i64 (e.2.2.1 : Nat), .int .i64 (e.2.2.2 : Nat)]
theorem entX_le (vb : List UInt8) (k j : Nat) : (entX vb k j).1 ≤ 65535 ∧ (entX vb k j).2.1 ≤ 65535 ∧ (entX vb k j).2.2.1 ≤ 65535 ∧ (entX vb k j).2.2.2 ≤ 65535 := by
  unfold entX
  refine ⟨num2_lt _ _, num2_lt _ _, ?_, ?_⟩
  · dsimp only; split
    · exact num2_lt _ _
    · omega
  · dsimp only; split
    · exact num2_lt _ _
    · omega
/-- The entry of a state and a class. -/
def enM (bs : List UInt8) (k s c : Nat) : Ent := entX (bs.drop (num bs 12 4)) k (entN bs (s * num bs 0 4 + c))
/-- The class of a line's place, or of its end. -/
def clD (bs : List UInt8) (rs : List RP) (l : List (Int × Int)) (z : Nat) : Nat := match l[z]? with
  | some p => classM bs rs p.1
  | none => 0
theorem classM_less (bs : List UInt8) (rs : List RP) (id : Int) (h : 4 ≤ num bs 0 4) : classM bs rs id < num bs 0 4 := by
  unfold classM
  split
  · omega
  · simp only
    split
    · rename_i h2; exact h2.2
    · omega
theorem clD_lt (bs : List UInt8) (rs : List RP) (l : List (Int × Int)) (z : Nat) (h : 4 ≤ num bs 0 4) : clD bs rs l z < num bs 0 4 := by
  unfold clD
  split
  · exact classM_less _ _ _ h
  · omega
theorem enM_next (bs : List UInt8) (k : Nat) {glyphs : Nat} {rs : List RP} {S s c : Nat} (hok : MOk bs glyphs k rs S) (hs : s < S) (hc : c < num bs 0 4) : (enM bs k s c).1 < S := by
  have h1 : entN bs (s * num bs 0 4 + c) < needE bs S := ent_in hs hc
  have h2 : nextN bs k (entN bs (s * num bs 0 4 + c)) < needS bs k (needE bs S) := needL_lt h1
  have h3 := hok.least.closed.2
  have h4 : (enM bs k s c).1 = nextN bs k (entN bs (s * num bs 0 4 + c)) := by
    unfold enM entX nextN
    rw [num_dropS]
  omega
/-- A machine goes along a line: what becomes of it, how many steps, and the error. -/
def runD {X : Type} (cl : X → Nat → Nat) (en : Nat → Nat → Ent) (fin : X → Nat → Bool) (act : X → Nat → Ent → X × Int × Int) : Nat → X → Nat → Nat → Nat → Nat → X × Nat × Nat
  | 0, x, _, _, _, st => (x, st - 1, 4)
  | fu + 1, x, now, z, re, st =>
    let e := en now (cl x z)
    let r := act x z e
    if e.2.1 / 2 ^ 14 % 2 = 1 then (if 64 < re + 1 then (r.1, st, 4) else runD cl en fin act fu r.1 e.1 (max r.2.1 0).toNat (re + 1) (st + 1))
    else if fin x z then (r.1, st, 0) else runD cl en fin act fu r.1 e.1 (max r.2.2 0).toNat 0 (st + 1)
/-- What holds of a line at first, and stays at each step, holds of what becomes of it. -/
theorem runD_keeps {X : Type} (P : X → Prop) {cl : X → Nat → Nat} {en : Nat → Nat → Ent} {fin : X → Nat → Bool} {act : X → Nat → Ent → X × Int × Int} (hs : ∀ x z e, P x → P (act x z e).1) : ∀ fu x now z re st, P x → P (runD cl en fin act fu x now z re st).1 := by
  intro fu
  induction fu with
  | zero => intro x now z re st h; exact h
  | succ fu ih =>
    intro x now z re st h
    unfold runD
    dsimp only
    split
    · split
      · exact hs _ _ _ h
      · exact ih _ _ _ _ _ (hs _ _ _ h)
    · split
      · exact hs _ _ _ h
      · exact ih _ _ _ _ _ (hs _ _ _ h)
set_option maxRecDepth 100000 in
set_option maxHeartbeats 1600000 in
theorem classAt_z (B g : Nat) (bs : List UInt8) (k : Nat) (rs : List RP) (S : Nat) (Bl gl : Nat) (a : Option Addr) (c : Nat) (l : List (Int × Int)) (z : Nat) (hz : z ≤ 1000000000) (w : World) (h : MIs B g bs k rs S w) (hf : FitL (tabR (bs.drop (num bs 4 4)) rs).1 (tabR (bs.drop (num bs 4 4)) rs).2) (hG : GIs Bl gl a c l w) (hid : ∀ p ∈ l, -9223372036854775808 ≤ p.1 ∧ p.1 ≤ 9223372036854775807) :
    Calls Try.prog 79 #[.pointer (some ⟨g, 0, none⟩), .pointer (some ⟨gl, 0, none⟩), .int .i64 (z : Nat)] w fun e w' => e = .returned (.tuple #[.int .i64 (clD bs rs l z : Nat), .bool (decide (z < l.length))]) ∧ Below w.heap.size w w' := by
  have hAC := allocC
  have hAF := allocF
  have HAt := Lib.hid (gat_any Bl gl a c l w hG (z : Nat))
  have HM := Lib.hid h
  have HF := Lib.hid hf
  cases hl : l[z]? with
  | none =>
    have hin : inG l (z : Nat) = false := by
      have := List.getElem?_eq_none_iff.1 hl
      unfold inG
      simp
      omega
    rw [show clD bs rs l z = 0 by rw [clD, hl], show decide (z < l.length) = false by have := List.getElem?_eq_none_iff.1 hl; simp; omega]
    rw [hin, show atG l (z : Nat) = (0, 0) by rw [atG, if_neg (by rw [hin]; decide)]] at HAt
    simp only [glyphA] at HAt
    clear hl hin h hG hid hf
    go_enter Try.func79, Try.ntmps79
    go_wp2_with (go_at_call 50; (with_reducible refine HAt.out.mono ?_); rintro e w1 ⟨rfl, hb1⟩)
    go_ret2
    exact ⟨rfl, blw⟩
  | some p =>
    have hin : inG l (z : Nat) = true := inG_of hl
    have hat : atG l (z : Nat) = p := atG_of hl
    have hp := hid p (List.mem_of_getElem? hl)
    rw [show clD bs rs l z = classM bs rs p.1 by rw [clD, hl], show decide (z < l.length) = true by have := (List.getElem?_eq_some_iff.1 hl).1; simp; omega]
    rw [hin, hat] at HAt
    obtain ⟨p1, p2⟩ := p
    simp only [glyphA] at HAt hp
    have HC := Lib.hid (fun W (hW : Below w.heap.size w W) => class_any B g bs k rs S p1 W (HM.out.below hW) HF.out hp)
    clear hl hin hat h hG hid hf hp
    generalize classM bs rs p1 = C at *
    go_enter Try.func79, Try.ntmps79
    go_wp2_with (first | (go_at_call 50; (with_reducible refine HAt.out.mono ?_); rintro e w1 ⟨rfl, hb1⟩; have h1c := bc hb1; have h1f := bf hb1; have h1z := hb1.size) | (go_at_call 106; (with_reducible refine (HC.out _ (by exact blw)).mono ?_); rintro e w2 ⟨rfl, hb2⟩))
    go_ret2
    exact ⟨rfl, blw⟩
end Go.Proofs.Ytlgkikmmpnnnfaa
end
section

/- Lookups of a subtable that changes glyphs by what stands around them, as the document has them, and what its swap does. Conditions: the lookups in memory; sizes. -/
namespace Go.Proofs.Ytlgkikmmpnnnfaa
open Go.RowKit Go.Lib

end Go.Proofs.Ytlgkikmmpnnnfaa
end
section

/- Such a subtable of layer 15, as its bytes tell it. No condition. -/
namespace Go.Proofs.Ytlgkikmmpnnnfaa
open Go.RowKit Go.Lib

end Go.Proofs.Ytlgkikmmpnnnfaa
end
section

/- The document's Read of layer 15. Conditions: bytes as the slice says; sizes. -/
namespace Go.Proofs.Ytlgkikmmpnnnfaa
open Go.RowKit Go.Lib

end Go.Proofs.Ytlgkikmmpnnnfaa
end
section

/- Laws for a struct of some cells: loaded, stored, made anew, in one step each. Conditions: the block is known whole. -/
namespace Go.Proofs.Ytlgkikmmpnnnfaa
open Go.RowKit Go.Lib

end Go.Proofs.Ytlgkikmmpnnnfaa
end
section

/- The document's Read of layer 15: of bytes that begin with a machine. Conditions: bytes as the slice says; sizes. -/
namespace Go.Proofs.Ytlgkikmmpnnnfaa
open Go.RowKit Go.Lib

end Go.Proofs.Ytlgkikmmpnnnfaa
end
section

/- A map of lookups by where they stand, and a row of them. Conditions: as each says. -/
namespace Go.Proofs.Ytlgkikmmpnnnfaa
open Go.RowKit Go.Lib

end Go.Proofs.Ytlgkikmmpnnnfaa
end
section

/- ctx.take: so many lookups whose places stand in a list. Conditions: as many bytes as the slice says; sizes. -/
namespace Go.Proofs.Ytlgkikmmpnnnfaa
open Go.RowKit Go.Lib

end Go.Proofs.Ytlgkikmmpnnnfaa
end
section

/- ctx.asked: how many lookups some entries ask for. Conditions: entries as their bytes tell them. -/
namespace Go.Proofs.Ytlgkikmmpnnnfaa
open Go.RowKit Go.Lib

theorem ent_at {w : World} {a : Option Addr} {vb : List UInt8} {k n : Nat} (h : Has w a (entsV vb k n)) {j : Nat} (hj : j < n) : ∃ g o, a = some ⟨g, o, none⟩ ∧ g < w.heap.size ∧
    w.cell? ⟨g, o + j * 4, none⟩ = some (.int .i64 ((entX vb k j).1 : Nat)) ∧ w.cell? ⟨g, o + j * 4 + 1, none⟩ = some (.int .i64 ((entX vb k j).2.1 : Nat)) ∧ w.cell? ⟨g, o + j * 4 + 2, none⟩ = some (.int .i64 ((entX vb k j).2.2.1 : Nat)) ∧ w.cell? ⟨g, o + j * 4 + 3, none⟩ = some (.int .i64 ((entX vb k j).2.2.2 : Nat)) := by
  have hlen : 0 < (entsV vb k n).length := by
    have := entsV_get vb k n j 0 hj (by omega)
    rcases Nat.eq_zero_or_pos (entsV vb k n).length with h0 | h0
    · rw [List.getElem?_eq_none (by omega)] at this
      simp [entV] at this
    · exact h0
  obtain ⟨g, o, ha, hg, hx⟩ := h.get hlen
  have e0 : (entsV vb k n)[j * 4]? = some (.int .i64 ((entX vb k j).1 : Nat)) := by have := entsV_get vb k n j 0 hj (by omega); rw [Nat.add_zero] at this; exact this
  have e1 : (entsV vb k n)[j * 4 + 1]? = some (.int .i64 ((entX vb k j).2.1 : Nat)) := entsV_get vb k n j 1 hj (by omega)
  have e2 : (entsV vb k n)[j * 4 + 2]? = some (.int .i64 ((entX vb k j).2.2.1 : Nat)) := entsV_get vb k n j 2 hj (by omega)
  have e3 : (entsV vb k n)[j * 4 + 3]? = some (.int .i64 ((entX vb k j).2.2.2 : Nat)) := entsV_get vb k n j 3 hj (by omega)
  exact ⟨g, o, ha, hg, hx _ _ e0, by rw [Nat.add_assoc]; exact hx _ _ e1, by rw [Nat.add_assoc]; exact hx _ _ e2, by rw [Nat.add_assoc]; exact hx _ _ e3⟩
end Go.Proofs.Ytlgkikmmpnnnfaa
end
section

/- ctx.Take: such a subtable that a View begins with, or it throws. Conditions: as many bytes as the slice says. -/
namespace Go.Proofs.Ytlgkikmmpnnnfaa
open Go.RowKit Go.Lib

end Go.Proofs.Ytlgkikmmpnnnfaa
end
section

/- The document's Begin, Next and Go: where a machine is on its way. Conditions: a machine in memory; sizes. -/
namespace Go.Proofs.Ytlgkikmmpnnnfaa
open Go.RowKit Go.Lib

end Go.Proofs.Ytlgkikmmpnnnfaa
end
section

/- The document's way of a machine, told of the machine along a line as a function; seven stores into one block. No condition. -/
namespace Go.Proofs.Ytlgkikmmpnnnfaa
open Go.RowKit Go.Lib

end Go.Proofs.Ytlgkikmmpnnnfaa
end
section

/- The document's Run of layer 15. Conditions: a machine and lookups in memory; sizes. -/
namespace Go.Proofs.Ytlgkikmmpnnnfaa
open Go.RowKit Go.Lib

def IdsOk (l : List (Int × Int)) : Prop := ∀ p ∈ l, -9223372036854775808 ≤ p.1 ∧ p.1 ≤ 9223372036854775807
end Go.Proofs.Ytlgkikmmpnnnfaa
end
section

/- drive.Run, with an act made by Plain: a machine goes along a line, whatever the act does by its own contract. Conditions: a machine and a line in memory; the act keeps the machine, and what else is known; sizes. -/
namespace Go.Proofs.Ytlgkikmmpnnnfaa
open Go.RowKit Go.Lib

theorem fn_nilA (fn : Fn) (first cap : Array Value) (w : World) : (binOp .eql 105 (.func fn first cap) .nilFunc).run Try.prog w = .ok (.bool false) w := by kernel_rfl
set_option maxRecDepth 100000 in
set_option maxHeartbeats 3200000 in
theorem drunE_any {X : Type} (line : X → List (Int × Int)) (Inv : X → World → Prop) (act : X → Nat → Ent → X × Int × Int) (own : Nat → Nat → Prop) (K Bm g : Nat) (bs : List UInt8) (k glyphs : Nat) (rs : List RP) (S B Bl gl gx : Nat) (x0 : X) (w : World)
    (hM : MIs Bm g bs k rs S w) (hS : S ≤ 65536) (hok : MOk bs glyphs k rs S) (hg1 : 1 ≤ glyphs) (hfit : FitL (tabR (bs.drop (num bs 4 4)) rs).1 (tabR (bs.drop (num bs 4 4)) rs).2) (hown : notM own) (hB : B ≤ w.heap.size)
    (hI : Inv x0 w) (hIB : ∀ x W W', Inv x W → Below W.heap.size W W' → Inv x W') (hIL : ∀ x W, Inv x W → ∃ a c, GIs Bl gl a c (line x) W) (hIds : ∀ x W, Inv x W → ∀ p ∈ line x, -9223372036854775808 ≤ p.1 ∧ p.1 ≤ 9223372036854775807)
    (n : Nat) (hn : n = (line x0).length) (hn6 : n ≤ 1000000) (hK : K ≤ 100)
    (hbd : ∀ x z e, (act x z e).2.1 ≤ (z : Int) + K ∧ (act x z e).2.2 ≤ (z : Int) + K)
    (hact : ∀ x W z e, Inv x W → KeepC B own w W → z ≤ 900000000 → (∃ s c, s < S ∧ c < num bs 0 4 ∧ e = enM bs k s c) → e.1 ≤ 65535 → e.2.1 ≤ 65535 → e.2.2.1 ≤ 65535 → e.2.2.2 ≤ 65535 → Calls Try.prog 81 #[.int .i64 (z : Nat), entV4 e, .pointer (some ⟨gx, 0, none⟩)] W fun r W' => r = .returned (.tuple #[.int .i64 (act x z e).2.1, .int .i64 (act x z e).2.2]) ∧ Inv (act x z e).1 W' ∧ KeepC B own W W') :
    Calls Try.prog 47 #[.pointer (some ⟨g, 0, none⟩), .pointer (some ⟨gl, 0, none⟩), .func (.func 81) #[] #[.pointer (some ⟨gx, 0, none⟩)]] w fun e w' =>
      e = .returned (.tuple #[.int .i64 ((runD (fun x z => clD bs rs (line x) z) (enM bs k) (fun x z => decide ((line x).length ≤ z)) act (2 * n + 128) x0 0 0 0 1).2.1 : Nat), .int .i64 ((runD (fun x z => clD bs rs (line x) z) (enM bs k) (fun x z => decide ((line x).length ≤ z)) act (2 * n + 128) x0 0 0 0 1).2.2 : Nat)]) ∧ Inv (runD (fun x z => clD bs rs (line x) z) (enM bs k) (fun x z => decide ((line x).length ≤ z)) act (2 * n + 128) x0 0 0 0 1).1 w' ∧ KeepC B own w w' := by
  have hAC := allocC
  have hAF := allocF
  have hN := fn_nilA
  obtain ⟨R, hR⟩ : ∃ R, R = runD (fun x z => clD bs rs (line x) z) (enM bs k) (fun x z => decide ((line x).length ≤ z)) act (2 * n + 128) x0 0 0 0 1 := ⟨_, rfl⟩
  rw [← hR]
  obtain ⟨a0, c0, hG0⟩ := hIL x0 w hI
  have hln := glen_any Bl gl a0 c0 (line x0) w hG0
  rw [← hn] at hln
  have HLN := Lib.hid hln
  have HM := Lib.hid hM
  have HCA := Lib.hid (fun W x z (hk : KeepC B own w W) (hx : Inv x W) (hz : z ≤ 1000000000) => by
    obtain ⟨a, c, hG⟩ := hIL x W hx
    exact classAt_z Bm g bs k rs S Bl gl a c (line x) z hz W (hM.keepO hk hown) hfit hG (hIds x W hx))
  have HST := Lib.hid (fun W (hk : KeepC B own w W) s c (hs : s < S) (hc : c < num bs 0 4) => step_yes Bm g bs k rs S s c W (hM.keepO hk hown) hS hs hc)
  have HACT := Lib.hid hact
  have HCL := Lib.hid (fun x z => clD_lt bs rs (line x) z hok.cls.1)
  have HNX := Lib.hid (fun s c (hs : s < S) (hc : c < num bs 0 4) => enM_next bs k hok hs hc)
  have HIB := Lib.hid hIB
  have HI := Lib.hid hI
  have HR := Lib.hid hR
  have HBD := Lib.hid hbd
  have HOWN := Lib.hid hown
  have hS2 : 0 < S := by have := hok.least.closed.1; omega
  have hK2 : K * (2 * n + 129) ≤ 100 * (2 * n + 129) := Nat.mul_le_mul_right _ hK
  clear hM hok hfit hown hI hIB hIL hIds hn hact hG0 hln hR hbd
  go_enter Try.func47, Try.ntmps47
  go_wp2_with (go_at_call 38; (with_reducible refine HLN.out.mono ?_); rintro e w_ ⟨rfl, rfl⟩)
  go_loopw [9, 10, 11, 12] (fun now at' rests steps wr => ∃ (fu : Nat) (x : X) (s z re st : Nat), now = .int .i64 (s : Nat) ∧ at' = .int .i64 (z : Nat) ∧ rests = .int .i64 (re : Nat) ∧ steps = .int .i64 (st : Nat) ∧ s < S ∧ z ≤ K * st ∧ re ≤ 64 ∧ st + fu = 2 * n + 129 ∧ Inv x wr ∧ KeepC B own w wr ∧ runD (fun x z => clD bs rs (line x) z) (enM bs k) (fun x z => decide ((line x).length ≤ z)) act fu x s z re st = R) (fun _ _ _ steps _ => 2 * n + 129 - (Go.RowKit.intOf steps).toNat)
  case atStart => exact ⟨2 * n + 128, x0, 0, 0, 0, 1, rfl, rfl, rfl, rfl, hS2, Nat.zero_le _, Nat.zero_le _, by omega, HI.out, KeepC.refl _ _ _, HR.out.symm⟩
  case round =>
    obtain ⟨fu, x, s, z, re, st, rfl, rfl, rfl, rfl, hs, hz, hre, hst, hx, hk, hrun⟩ := hrel
    rename World => wr
    have HX := Lib.hid hx
    have HK := Lib.hid hk
    have HRUN := Lib.hid hrun
    clear hx hk hrun
    by_cases hfu : fu = 0
    · have hst2 : st = 2 * n + 129 := by omega
      have d1 : decide ((st : Int) ≤ 2 * (n : Int) + 128) = false := by simp; omega
      have hrun := HRUN.out
      rw [hfu, runD] at hrun
      have HRUN := Lib.hid hrun
      clear hfu hrun
      go_wp2_with fail
      go_ret2
      rw [← HRUN.out]
      refine ⟨?_, HX.out, HK.out⟩
      show Ending.returned (.tuple #[.int .i64 (2 * (n : Int) + 128), .int .i64 4]) = Ending.returned (.tuple #[.int .i64 ((st - 1 : Nat) : Int), .int .i64 ((4 : Nat) : Int)])
      rw [show ((st - 1 : Nat) : Int) = 2 * (n : Int) + 128 by omega]
      rfl
    · obtain ⟨f, rfl⟩ : ∃ f, fu = f + 1 := ⟨fu - 1, by omega⟩
      have d1 : decide ((st : Int) ≤ 2 * (n : Int) + 128) = true := by simp; omega
      have hzb : z ≤ 900000000 := by
        have : K * st ≤ K * (2 * n + 129) := Nat.mul_le_mul_left _ (by omega)
        omega
      have hrun := HRUN.out
      have hBD := HBD.out x z (enM bs k s (clD bs rs (line x) z))
      have hC := HCL.out x z
      have hca := HCA.out wr x z HK.out HX.out (by omega)
      have hnx := HNX.out s (clD bs rs (line x) z) hs hC
      have hstp := fun W (hW : KeepC B own w W) => show Calls Try.prog 80 #[.pointer (some ⟨g, 0, none⟩), .int .i64 (s : Nat), .int .i64 (clD bs rs (line x) z : Nat)] W fun e w' => e = .returned (.tuple #[entV4 (enM bs k s (clD bs rs (line x) z)), .bool true]) ∧ Below W.heap.size W w' from HST.out W hW s (clD bs rs (line x) z) hs hC
      have hle : (enM bs k s (clD bs rs (line x) z)).1 ≤ 65535 ∧ (enM bs k s (clD bs rs (line x) z)).2.1 ≤ 65535 ∧ (enM bs k s (clD bs rs (line x) z)).2.2.1 ≤ 65535 ∧ (enM bs k s (clD bs rs (line x) z)).2.2.2 ≤ 65535 := entX_le _ _ _
      rw [runD] at hrun
      (try simp only at hrun)
      generalize he : enM bs k s (clD bs rs (line x) z) = E at *
      generalize clD bs rs (line x) z = C at *
      obtain ⟨e0, e1, e2, e3⟩ := E
      (try simp only at hle hnx hrun)
      have hac := fun W (hi : Inv x W) (hk : KeepC B own w W) => HACT.out x W z (e0, e1, e2, e3) hi hk hzb ⟨s, C, hs, hC, he.symm⟩ hle.1 hle.2.1 hle.2.2.1 hle.2.2.2
      generalize act x z (e0, e1, e2, e3) = r at hrun hac hBD
      obtain ⟨x1, y1, y2⟩ := r
      (try simp only at hrun hac hBD)
      simp only [entV4] at hac hstp
      obtain ⟨wi, hwi⟩ : ∃ wi, decide (z < (line x).length) = wi := ⟨_, rfl⟩
      rw [hwi] at hca
      have HWI := Lib.hid hwi
      have HC1 := Lib.hid hca
      have HS1 := Lib.hid hstp
      have HA1 := Lib.hid hac
      have hzs : z + K ≤ K * (st + 1) := by rw [Nat.mul_succ]; omega
      obtain ⟨p1, hp1⟩ : ∃ p : Nat, max y1 0 = p := ⟨(max y1 0).toNat, by omega⟩
      obtain ⟨p2, hp2⟩ : ∃ p : Nat, max y2 0 = p := ⟨(max y2 0).toNat, by omega⟩
      rw [hp1, hp2, Int.toNat_natCast, Int.toNat_natCast] at hrun
      have hq1 : p1 ≤ z + K := by omega
      have hq2 : p2 ≤ z + K := by omega
      have HRN := Lib.hid hrun
      have hle1 := hle.2.1
      have hBr := Nat.le_trans hB HK.out.size
      clear hwi he hca hstp hac hrun hle hBD hC HRUN
      by_cases hA : e1 / 2 ^ 14 % 2 = 1
      · have hbt : bits .and .i64 (e1 : Int) 16384 = 16384 := flag_yes e1 14 hle1 (by decide) 16384 rfl hA
        have hrn := HRN.out
        rw [if_pos hA] at hrn
        by_cases h64 : 64 < re + 1
        · have d2 : decide ((64 : Int) < (re : Int) + 1) = true := by simp; omega
          rw [if_pos h64] at hrn
          have HRN := Lib.hid hrn
          clear hrn hA
          go_wp2_with (first
            | (go_at_call 79; (with_reducible refine HC1.out.mono ?_); rintro e w1 ⟨rfl, hb1⟩; have HK1 := Lib.hid (HK.out.trans (KeepC.of (own := own) hb1 hBr)); have HX1 := Lib.hid (HIB.out _ _ _ HX.out hb1); clear hb1)
            | (go_at_call 80; (with_reducible refine (HS1.out _ HK1.out).mono ?_); rintro e w2 ⟨rfl, hb2⟩; have hBw := Nat.le_trans hB HK1.out.size; have hb2' : Below w1.heap.size w1 (w2.alloc (Obj.cells #[.int .i64 (e0 : Nat), .int .i64 (e1 : Nat), .int .i64 (e2 : Nat), .int .i64 (e3 : Nat)] 64)) := balloc hb2 _; have HK2 := Lib.hid (HK1.out.trans (KeepC.of (own := own) hb2' hBw)); have HX2 := Lib.hid (HIB.out _ _ _ HX1.out hb2'); clear hb2 hb2' hBw)
            | (go_at_call 81; (with_reducible refine (HA1.out _ HX2.out HK2.out).mono ?_); rintro e w3 ⟨rfl, hx3, hk3⟩; have h14 := (hk3.kept w2.heap.size _ _ _ (heap_push _ _ _ |>.trans (if_pos rfl)) (HOWN.out.2.2.1 _)).trans (heap_push _ _ _ |>.trans (if_pos rfl)); have q0 := cell_of_heap h14 0; have q1 := cell_of_heap h14 1; simp only [List.getElem?_toArray, List.getElem?_cons_succ, List.getElem?_cons_zero] at q0 q1; have HX3 := Lib.hid hx3; have HK3 := Lib.hid (HK2.out.trans hk3); clear hx3 hk3 h14))
          go_ret2
          rw [← HRN.out]
          exact ⟨rfl, HX3.out, HK3.out⟩
        · have d2 : decide ((64 : Int) < (re : Int) + 1) = false := by simp; omega
          rw [if_neg h64] at hrn
          have HRN := Lib.hid hrn
          clear hrn hA
          go_wp2_with (first
            | (go_at_call 79; (with_reducible refine HC1.out.mono ?_); rintro e w1 ⟨rfl, hb1⟩; have HK1 := Lib.hid (HK.out.trans (KeepC.of (own := own) hb1 hBr)); have HX1 := Lib.hid (HIB.out _ _ _ HX.out hb1); clear hb1)
            | (go_at_call 80; (with_reducible refine (HS1.out _ HK1.out).mono ?_); rintro e w2 ⟨rfl, hb2⟩; have hBw := Nat.le_trans hB HK1.out.size; have hb2' : Below w1.heap.size w1 (w2.alloc (Obj.cells #[.int .i64 (e0 : Nat), .int .i64 (e1 : Nat), .int .i64 (e2 : Nat), .int .i64 (e3 : Nat)] 64)) := balloc hb2 _; have HK2 := Lib.hid (HK1.out.trans (KeepC.of (own := own) hb2' hBw)); have HX2 := Lib.hid (HIB.out _ _ _ HX1.out hb2'); clear hb2 hb2' hBw)
            | (go_at_call 81; (with_reducible refine (HA1.out _ HX2.out HK2.out).mono ?_); rintro e w3 ⟨rfl, hx3, hk3⟩; have h14 := (hk3.kept w2.heap.size _ _ _ (heap_push _ _ _ |>.trans (if_pos rfl)) (HOWN.out.2.2.1 _)).trans (heap_push _ _ _ |>.trans (if_pos rfl)); have q0 := cell_of_heap h14 0; have q1 := cell_of_heap h14 1; simp only [List.getElem?_toArray, List.getElem?_cons_succ, List.getElem?_cons_zero] at q0 q1; have HX3 := Lib.hid hx3; have HK3 := Lib.hid (HK2.out.trans hk3); clear hx3 hk3 h14))
          go_roundw
          case rel => exact ⟨f, x1, e0, p1, re + 1, st + 1, rfl, by first | (congr 1; split <;> omega) | congr 1, by go_num, by go_num, hnx, by omega, by omega, by omega, HX3.out, HK3.out, HRN.out⟩
          case measure => simp only [RowKit.intOf]; omega
      · have hbt : bits .and .i64 (e1 : Int) 16384 = 0 := flag_no e1 14 hle1 (by decide) 16384 rfl hA
        have hrn := HRN.out
        rw [if_neg hA] at hrn
        by_cases hC0 : (line x).length ≤ z
        · obtain rfl : wi = false := by rw [← HWI.out]; simp; omega
          rw [if_pos (by simp; omega)] at hrn
          have HRN := Lib.hid hrn
          clear hrn hA hC0
          go_wp2_with (first
            | (go_at_call 79; (with_reducible refine HC1.out.mono ?_); rintro e w1 ⟨rfl, hb1⟩; have HK1 := Lib.hid (HK.out.trans (KeepC.of (own := own) hb1 hBr)); have HX1 := Lib.hid (HIB.out _ _ _ HX.out hb1); clear hb1)
            | (go_at_call 80; (with_reducible refine (HS1.out _ HK1.out).mono ?_); rintro e w2 ⟨rfl, hb2⟩; have hBw := Nat.le_trans hB HK1.out.size; have hb2' : Below w1.heap.size w1 (w2.alloc (Obj.cells #[.int .i64 (e0 : Nat), .int .i64 (e1 : Nat), .int .i64 (e2 : Nat), .int .i64 (e3 : Nat)] 64)) := balloc hb2 _; have HK2 := Lib.hid (HK1.out.trans (KeepC.of (own := own) hb2' hBw)); have HX2 := Lib.hid (HIB.out _ _ _ HX1.out hb2'); clear hb2 hb2' hBw)
            | (go_at_call 81; (with_reducible refine (HA1.out _ HX2.out HK2.out).mono ?_); rintro e w3 ⟨rfl, hx3, hk3⟩; have h14 := (hk3.kept w2.heap.size _ _ _ (heap_push _ _ _ |>.trans (if_pos rfl)) (HOWN.out.2.2.1 _)).trans (heap_push _ _ _ |>.trans (if_pos rfl)); have q0 := cell_of_heap h14 0; have q1 := cell_of_heap h14 1; simp only [List.getElem?_toArray, List.getElem?_cons_succ, List.getElem?_cons_zero] at q0 q1; have HX3 := Lib.hid hx3; have HK3 := Lib.hid (HK2.out.trans hk3); clear hx3 hk3 h14))
          go_ret2
          rw [← HRN.out]
          exact ⟨rfl, HX3.out, HK3.out⟩
        · obtain rfl : wi = true := by rw [← HWI.out]; simp; omega
          rw [if_neg (by simp; omega)] at hrn
          have HRN := Lib.hid hrn
          clear hrn hA hC0
          go_wp2_with (first
            | (go_at_call 79; (with_reducible refine HC1.out.mono ?_); rintro e w1 ⟨rfl, hb1⟩; have HK1 := Lib.hid (HK.out.trans (KeepC.of (own := own) hb1 hBr)); have HX1 := Lib.hid (HIB.out _ _ _ HX.out hb1); clear hb1)
            | (go_at_call 80; (with_reducible refine (HS1.out _ HK1.out).mono ?_); rintro e w2 ⟨rfl, hb2⟩; have hBw := Nat.le_trans hB HK1.out.size; have hb2' : Below w1.heap.size w1 (w2.alloc (Obj.cells #[.int .i64 (e0 : Nat), .int .i64 (e1 : Nat), .int .i64 (e2 : Nat), .int .i64 (e3 : Nat)] 64)) := balloc hb2 _; have HK2 := Lib.hid (HK1.out.trans (KeepC.of (own := own) hb2' hBw)); have HX2 := Lib.hid (HIB.out _ _ _ HX1.out hb2'); clear hb2 hb2' hBw)
            | (go_at_call 81; (with_reducible refine (HA1.out _ HX2.out HK2.out).mono ?_); rintro e w3 ⟨rfl, hx3, hk3⟩; have h14 := (hk3.kept w2.heap.size _ _ _ (heap_push _ _ _ |>.trans (if_pos rfl)) (HOWN.out.2.2.1 _)).trans (heap_push _ _ _ |>.trans (if_pos rfl)); have q0 := cell_of_heap h14 0; have q1 := cell_of_heap h14 1; simp only [List.getElem?_toArray, List.getElem?_cons_succ, List.getElem?_cons_zero] at q0 q1; have HX3 := Lib.hid hx3; have HK3 := Lib.hid (HK2.out.trans hk3); clear hx3 hk3 h14))
          go_roundw
          case rel => exact ⟨f, x1, e0, p2, 0, st + 1, rfl, by first | (congr 1; split <;> omega) | congr 1, rfl, by go_num, hnx, by omega, by omega, by omega, HX3.out, HK3.out, HRN.out⟩
          case measure => simp only [RowKit.intOf]; omega
end Go.Proofs.Ytlgkikmmpnnnfaa
end
section

/- ctx.Run: what a subtable that changes glyphs by what stands around them does to a line. Conditions: a subtable and a line in memory; sizes. -/
namespace Go.Proofs.Ytlgkikmmpnnnfaa
open Go.RowKit Go.Lib

theorem fn_nilC (fn : Fn) (first cap : Array Value) (w : World) : (binOp .neq 111 (.func fn first cap) .nilFunc).run Try.prog w = .ok (.bool true) w := by kernel_rfl
end Go.Proofs.Ytlgkikmmpnnnfaa
end
section

/- ctx.Read: such a subtable that bytes begin with. Conditions: as many bytes as the slice says; glyphs as an int. -/
namespace Go.Proofs.Ytlgkikmmpnnnfaa
open Go.RowKit Go.Lib

end Go.Proofs.Ytlgkikmmpnnnfaa
end
section

/- What law 15 asks first: a mark, and a change there. No condition. -/
namespace Go.Proofs.Ytlgkikmmpnnnfaa
open Go.RowKit Go.Lib

theorem newG_idsC {ids : List Int} (h : ∀ z ∈ ids, -9223372036854775808 ≤ z ∧ z ≤ 9223372036854775807) : IdsOk (newG ids) := by
  intro p hp
  obtain ⟨k, hk⟩ := List.mem_iff_getElem?.1 hp
  rw [newG_get] at hk
  cases hz : ids[k]? with
  | none => rw [hz] at hk; cases hk
  | some z =>
    rw [hz] at hk
    cases hk
    exact h z (List.mem_of_getElem? hz)
end Go.Proofs.Ytlgkikmmpnnnfaa
end
section

/- The document's subtable of layer 15 beside the code's: what both read of bytes, and what their lookups give; clusters stay. Conditions: as each says. -/
namespace Go.Proofs.Ytlgkikmmpnnnfaa
open Go.RowKit Go.Lib


end Go.Proofs.Ytlgkikmmpnnnfaa
end
section

/- A subtable of layer 15 whose entries name no lookup, or whose lookups have no glyph: its bytes, and that it changes no line. Conditions: a plan of a machine; the bytes' places below 65536. No walk. -/
namespace Go.Proofs.Ytlgkikmmpnnnfaa
open Go.RowKit Go.Lib

end Go.Proofs.Ytlgkikmmpnnnfaa
end
section

/- The bytes of subtables of layers 17 and 18, as their laws write them: where the lists stand, what is in them, the entries. No walk. Conditions: the bytes' places below 65536. -/
namespace Go.Proofs.Ytlgkikmmpnnnfaa
open Go.RowKit Go.Lib

def longs (l : List Nat) : List UInt8 := l.flatMap fun x => beN 4 x
theorem longs_length (l : List Nat) : (longs l).length = 4 * l.length := by
  induction l with
  | nil => rfl
  | cons x l ih => simp only [longs, List.flatMap_cons, List.length_append, beN_length, List.length_cons] at *; omega
/-- A subtable of layer 17. -/
def ligH (p : PlanL) (nA nC : Nat) : List UInt8 :=
  splice (splice (splice (planB p 1 12) 16 (beN 4 (planB p 1 12).length)) 20 (beN 4 ((planB p 1 12).length + 4 * nA))) 24 (beN 4 ((planB p 1 12).length + 4 * nA + 2 * nC))
def ligB (p : PlanL) (acts comps ligs : List Nat) : List UInt8 := ligH p acts.length comps.length ++ longs acts ++ vals16 comps ++ vals16 ligs
/-- A subtable of layer 18. -/
def insB (p : PlanL) (list : List Nat) : List UInt8 := splice (planB p 2 4) 16 (beN 4 (planB p 2 4).length) ++ vals16 list
section
variable {p : PlanL}
theorem planL1 : (planB p 1 12).length = 34 + 2 * p.cls.length + 2 * (p.rows.length * p.n) + p.ents.length * 6 := by
  have := planB_length p 1 12 (by decide)
  omega
theorem planL2 : (planB p 2 4).length = 26 + 2 * p.cls.length + 2 * (p.rows.length * p.n) + p.ents.length * 8 := by
  have := planB_length p 2 4 (by decide)
  omega
end
end Go.Proofs.Ytlgkikmmpnnnfaa
end
section

/- What a subtable of layer 17 does to a line, as lists: places that are kept, actions, glyphs that become one. No walk, no condition: places that are kept are places of the line; clusters grow no greater than their place; without Perform, or without Push, the line stays. -/
namespace Go.Proofs.Ytlgkikmmpnnnfaa
open Go.RowKit Go.Lib

/-- A line, and the places that are kept. -/
abbrev LX := List (Int × Int) × List Int
/-- The number at a place of a list; -1: there is none. -/
def atN (l : List UInt8) (i : Int) : Int := if 0 ≤ i ∧ 2 * i + 2 ≤ (l.length : Int) then (num l (2 * i.toNat) 2 : Nat) else -1
/-- The number of an action's last thirty bits, the highest of them below nought. -/
def offA (x : Nat) : Int := if 536870912 ≤ x % 1073741824 then (x % 1073741824 : Nat) - 1073741824 else (x % 1073741824 : Nat)
def pushK (ps : List Int) (i : Int) : List Int := if ps.getLast? = some i then ps else if 64 < (ps ++ [i]).length then (ps ++ [i]).drop 1 else ps ++ [i]
def goneL (l : List (Int × Int)) (gone : List Int) : List (Int × Int) := gone.foldl (fun l j => setG l j 65535) l
/-- Some glyphs become one. -/
def oneL (l : List (Int × Int)) (i id : Int) (gone : List Int) : List (Int × Int) := goneL (joinG (setG l i id) i gone) gone
def perfL (ac co li : List UInt8) : Nat → List (Int × Int) → List Int → Nat → Int → List Int → LX
  | 0, l, ps, _, _, _ => (l, ps)
  | n + 1, l, ps, k, sum, gone =>
    match ps.getLast? with
    | none => (l, ps)
    | some i =>
      if atN co ((atG l i).1 + offA (num ac (4 * k) 4)) < 0 then (l, ps.dropLast)
      else if 2147483648 ≤ num ac (4 * k) 4 ∨ num ac (4 * k) 4 / 1073741824 % 2 = 1 then
        (if atN li (sum + atN co ((atG l i).1 + offA (num ac (4 * k) 4))) < 0 then (l, ps.dropLast)
        else if 2147483648 ≤ num ac (4 * k) 4 then (oneL l i (atN li (sum + atN co ((atG l i).1 + offA (num ac (4 * k) 4)))) gone, pushK ps.dropLast i)
        else perfL ac co li n (oneL l i (atN li (sum + atN co ((atG l i).1 + offA (num ac (4 * k) 4)))) gone) ps.dropLast (k + 1) (sum + atN co ((atG l i).1 + offA (num ac (4 * k) 4))) [i])
      else perfL ac co li n l ps.dropLast (k + 1) (sum + atN co ((atG l i).1 + offA (num ac (4 * k) 4))) (gone ++ [i])
def keepL (x : LX) (z F : Nat) : List Int := if 32768 ≤ F ∧ z < x.1.length then pushK x.2 (z : Nat) else x.2
def actL (ac co li : List UInt8) (x : LX) (z : Nat) (e : Ent) : LX × Int × Int :=
  (if e.2.1 / 8192 % 2 = 1 then perfL ac co li (keepL x z e.2.1).length x.1 (keepL x z e.2.1) e.2.2.1 0 [] else (x.1, keepL x z e.2.1), (z : Int), (z : Int) + 1)
/-- What such a subtable does to a line. -/
def ligD (bs : List UInt8) (rs : List RP) (ac co li : List UInt8) (l : List (Int × Int)) : LX × Nat × Nat := runD (fun x z => clD bs rs x.1 z) (enM bs 1) (fun x z => decide (x.1.length ≤ z)) (actL ac co li) (2 * l.length + 128) (l, []) 0 0 0 1

theorem offA_le (x : Nat) : -536870912 ≤ offA x ∧ offA x ≤ 536870911 := by
  unfold offA
  split <;> omega
theorem atN_le (l : List UInt8) (i : Int) : -1 ≤ atN l i ∧ atN l i ≤ 65535 := by
  unfold atN
  split
  · have := num2_lt l (2 * i.toNat)
    omega
  · omega
theorem goneL_length : ∀ (gone : List Int) (l : List (Int × Int)), (goneL l gone).length = l.length
  | [], l => rfl
  | j :: gone, l => (goneL_length gone (setG l j 65535)).trans (setG_length l j 65535)
theorem oneL_length (l : List (Int × Int)) (i id : Int) (gone : List Int) : (oneL l i id gone).length = l.length := by
  unfold oneL
  rw [goneL_length, joinG_length, setG_length]
theorem perfL_length (ac co li : List UInt8) : ∀ n l ps k sum gone, (perfL ac co li n l ps k sum gone).1.length = l.length := by
  intro n
  induction n with
  | zero => intro l ps k sum gone; rfl
  | succ n ih =>
    intro l ps k sum gone
    unfold perfL
    split
    · rfl
    split
    · rfl
    split
    · split
      · rfl
      split
      · exact oneL_length _ _ _ _
      · rw [ih, oneL_length]
    · exact ih _ _ _ _ _
/-- What holds of a line, and stays where glyphs become one, stays. -/
theorem perfL_keeps (P : List (Int × Int) → Prop) (hP : ∀ l i id gone, P l → 0 ≤ id → id ≤ 65535 → P (oneL l i id gone)) (ac co li : List UInt8) : ∀ n l ps k sum gone, P l → P (perfL ac co li n l ps k sum gone).1 := by
  intro n
  induction n with
  | zero => intro l ps k sum gone h; exact h
  | succ n ih =>
    intro l ps k sum gone h
    unfold perfL
    split
    · exact h
    split
    · exact h
    split
    · split
      · exact h
      rename_i hid
      split
      · exact hP _ _ _ _ h (by omega) (atN_le _ _).2
      · exact ih _ _ _ _ _ (hP _ _ _ _ h (by omega) (atN_le _ _).2)
    · exact ih _ _ _ _ _ h
theorem setG_ids {l : List (Int × Int)} (h : IdsOk l) (z x : Int) (h1 : -9223372036854775808 ≤ x) (h2 : x ≤ 9223372036854775807) : IdsOk (setG l z x) := by
  unfold setG
  split
  · intro p hp
    rcases List.mem_or_eq_of_mem_set hp with hp | rfl
    · exact h p hp
    · exact ⟨h1, h2⟩
  · exact h
theorem joinG_ids {l : List (Int × Int)} (h : IdsOk l) (z : Int) (ks : List Int) : IdsOk (joinG l z ks) := by
  unfold joinG
  split
  · rename_i hz
    obtain ⟨i, q, rfl, hq⟩ := inG_yes hz
    intro p hp
    rcases List.mem_or_eq_of_mem_set hp with hp | rfl
    · exact h p hp
    · rw [atG_of hq]
      exact h q (List.mem_of_getElem? hq)
  · exact h
theorem goneL_ids : ∀ (gone : List Int) (l : List (Int × Int)), IdsOk l → IdsOk (goneL l gone)
  | [], _, h => h
  | j :: gone, l, h => goneL_ids gone _ (setG_ids h j 65535 (by decide) (by decide))
theorem oneL_ids (l : List (Int × Int)) (i id : Int) (gone : List Int) (h : IdsOk l) (h1 : 0 ≤ id) (h2 : id ≤ 65535) : IdsOk (oneL l i id gone) :=
  goneL_ids gone _ (joinG_ids (setG_ids h i id (by omega) (by omega)) i gone)
/-- Places that are kept are places of the line, no more than sixty-four. -/
def KeptL (n : Nat) (ps : List Int) : Prop := ps.length ≤ 64 ∧ ∀ i ∈ ps, 0 ≤ i ∧ i < (n : Int)
theorem pushK_kept {n : Nat} {ps : List Int} {i : Int} (h : KeptL n ps) (hi : 0 ≤ i ∧ i < (n : Int)) : KeptL n (pushK ps i) := by
  have hm : ∀ j ∈ ps ++ [i], 0 ≤ j ∧ j < (n : Int) := by
    intro j hj
    rcases List.mem_append.1 hj with hj | hj
    · exact h.2 j hj
    · simp at hj
      subst hj
      exact hi
  have hl := h.1
  unfold pushK
  split
  · exact h
  split
  · exact ⟨by simp only [List.length_drop, List.length_append, List.length_singleton]; omega, fun j hj => hm j (List.mem_of_mem_drop hj)⟩
  · rename_i hn
    exact ⟨by omega, hm⟩
theorem kept_dropLast {n : Nat} {ps : List Int} (h : KeptL n ps) : KeptL n ps.dropLast :=
  ⟨by have := h.1; rw [List.length_dropLast]; omega, fun i hi => h.2 i (List.mem_of_mem_take (by rwa [List.dropLast_eq_take] at hi))⟩
theorem perfL_kept (ac co li : List UInt8) (N : Nat) : ∀ n l ps k sum gone, KeptL N ps → KeptL N (perfL ac co li n l ps k sum gone).2 := by
  intro n
  induction n with
  | zero => intro l ps k sum gone h; exact h
  | succ n ih =>
    intro l ps k sum gone h
    unfold perfL
    split
    · exact h
    rename_i i hi
    have hm := h.2 i (List.mem_of_getLast? hi)
    split
    · exact kept_dropLast h
    split
    · split
      · exact kept_dropLast h
      split
      · exact pushK_kept (kept_dropLast h) hm
      · exact ih _ _ _ _ _ (kept_dropLast h)
    · exact ih _ _ _ _ _ (kept_dropLast h)
/-- Without Perform, or without Push, the line stays. -/
theorem perfL_nil (ac co li : List UInt8) (n : Nat) (l : List (Int × Int)) (k : Nat) (sum : Int) (gone : List Int) : perfL ac co li n l [] k sum gone = (l, []) := by
  cases n <;> rfl
end Go.Proofs.Ytlgkikmmpnnnfaa
end
section

/- Layer 17: of however many glyphs that are kept one behind the other, no more than sixty-four become one. No walk; what the bytes tell of the machine and its lists is laid down as it is asked for. -/
namespace Go.Proofs.Ytlgkikmmpnnnfaa
open Go.RowKit Go.Lib

end Go.Proofs.Ytlgkikmmpnnnfaa
end
section

/- What a subtable of layer 18 does to a line, as lists: what is put, where the mark and the step's own glyph come to stand, how many are left. No walk: the line's own glyphs stay, in their order; as many more as it says, and no more than may be; with just as many left it is the same, with fewer it runs out; without lists it stays. -/
namespace Go.Proofs.Ytlgkikmmpnnnfaa
open Go.RowKit Go.Lib

/-- A line, the mark, how many are put, and whether there were too few left. -/
abbrev IX := List (Int × Int) × Int × Nat × Bool
def hereI (e : Ent) : Nat := if e.2.2.1 = 65535 then 0 else e.2.1 / 32 % 32
def markI (e : Ent) : Nat := if e.2.2.2 = 65535 then 0 else e.2.1 % 32
def idsI (li : List UInt8) (k n : Nat) : List Int := (List.range n).map fun i => ((num li (2 * (k + i)) 2 : Nat) : Int)
/-- Behind what is put at the mark: the line, the place of the own glyph, and the mark. -/
def putM (li : List UInt8) (l : List (Int × Int)) (mark : Int) (z : Nat) (e : Ent) (mk : Nat) : List (Int × Int) × Nat × Int :=
  if mk = 0 then (l, z, mark)
  else if e.2.1 / 1024 % 2 = 1 then (insG l mark (idsI li e.2.2.2 mk), if (z : Int) < mark then z else z + mk, mark + mk)
  else (insG l (mark + 1) (idsI li e.2.2.2 mk), if mark < (z : Int) then z + mk else z, mark)
/-- Behind what is put at the place: the line, where its own glyph stands, and the mark. -/
def putH (li : List UInt8) (l : List (Int × Int)) (mark : Int) (i : Nat) (e : Ent) (hr : Nat) : List (Int × Int) × Nat × Int :=
  if hr = 0 then (l, i, mark)
  else if e.2.1 / 2048 % 2 = 1 then (insG l (i : Nat) (idsI li e.2.2.1 hr), i + hr, if (i : Int) ≤ mark then mark + hr else mark)
  else (insG l (min (i + 1) l.length : Nat) (idsI li e.2.2.1 hr), i, if (i : Int) < mark then mark + hr else mark)
def actI (li : List UInt8) (left : Nat) (x : IX) (z : Nat) (e : Ent) : IX × Int × Int :=
  if x.2.2.2 = true then (x, (z : Int), (z : Int) + 1) else
  let mk := if x.2.1 < 0 then 0 else markI e
  if 0 < mk ∧ left < x.2.2.1 + mk then ((x.1, x.2.1, x.2.2.1, true), (z : Int), (z : Int) + 1) else
  let m := putM li x.1 x.2.1 z e mk
  let hr := hereI e
  if 0 < hr ∧ left < x.2.2.1 + mk + hr then ((m.1, m.2.2, x.2.2.1 + mk, true), (m.2.1 : Int), (m.2.1 : Int) + 1) else
  let h := putH li m.1 m.2.2 m.2.1 e hr
  ((h.1, if 32768 ≤ e.2.1 ∧ m.2.1 < m.1.length then (h.2.1 : Int) else h.2.2, x.2.2.1 + mk + hr, false), (m.2.1 : Int), (m.2.1 : Int) + hr + 1)
def insD (bs : List UInt8) (rs : List RP) (li : List UInt8) (left : Nat) (l : List (Int × Int)) : IX × Nat × Nat := runD (fun x z => clD bs rs x.1 z) (enM bs 2) (fun x z => decide (x.1.length ≤ z)) (actI li left) (2 * l.length + 128) (l, -1, 0, false) 0 0 0 1

theorem idsI_length (li : List UInt8) (k n : Nat) : (idsI li k n).length = n := by simp [idsI]
theorem idsI_le (li : List UInt8) (k n : Nat) : ∀ y ∈ idsI li k n, 0 ≤ y ∧ y ≤ 65535 := by
  intro y hy
  obtain ⟨i, _, rfl⟩ := List.mem_map.1 hy
  have := num2_lt li (2 * (k + i))
  omega
theorem insG_len {l : List (Int × Int)} {z : Int} (ids : List Int) (h : 0 ≤ z ∧ z ≤ (l.length : Int)) : (insG l z ids).length = l.length + ids.length := by
  unfold insG
  rw [if_pos (by unfold okI; simp; exact h)]
  simp only [List.length_append, List.length_take, List.length_map, List.length_drop]
  omega
def MarkI (l : List (Int × Int)) (mark : Int) : Prop := -1 ≤ mark ∧ mark < (l.length : Int)
theorem putM_is {li : List UInt8} {l : List (Int × Int)} {mark : Int} {z : Nat} (e : Ent) {mk : Nat} (hm : MarkI l mark) (hz : z ≤ l.length) (h0 : mark < 0 → mk = 0) :
    (putM li l mark z e mk).1.length = l.length + mk ∧ MarkI (putM li l mark z e mk).1 (putM li l mark z e mk).2.2 ∧ (putM li l mark z e mk).2.1 ≤ (putM li l mark z e mk).1.length ∧ (z < l.length → (putM li l mark z e mk).2.1 < (putM li l mark z e mk).1.length) := by
  unfold MarkI at *
  unfold putM
  split
  · rename_i h
    subst h
    exact ⟨rfl, hm, hz, fun h => h⟩
  have hmk : 0 ≤ mark := by
    rcases Int.lt_or_le mark 0 with h | h
    · exact absurd (h0 h) ‹_›
    · exact h
  split
  · have hl := insG_len (z := mark) (l := l) (idsI li e.2.2.2 mk) ⟨hmk, by omega⟩
    rw [idsI_length] at hl
    dsimp only
    rw [hl]
    refine ⟨rfl, by omega, ?_, ?_⟩ <;> split <;> omega
  · have hl := insG_len (z := mark + 1) (l := l) (idsI li e.2.2.2 mk) ⟨by omega, by omega⟩
    rw [idsI_length] at hl
    dsimp only
    rw [hl]
    refine ⟨rfl, by omega, ?_, ?_⟩ <;> split <;> omega
theorem putH_is {li : List UInt8} {l : List (Int × Int)} {mark : Int} {i : Nat} (e : Ent) {hr : Nat} (hm : MarkI l mark) (hz : i ≤ l.length) :
    (putH li l mark i e hr).1.length = l.length + hr ∧ MarkI (putH li l mark i e hr).1 (putH li l mark i e hr).2.2 ∧ (i < l.length → (putH li l mark i e hr).2.1 < (putH li l mark i e hr).1.length) := by
  unfold MarkI at *
  unfold putH
  split
  · rename_i h
    subst h
    exact ⟨rfl, hm, fun h => h⟩
  split
  · have hl := insG_len (z := (i : Nat)) (l := l) (idsI li e.2.2.1 hr) ⟨by omega, by omega⟩
    rw [idsI_length] at hl
    dsimp only
    rw [hl]
    refine ⟨rfl, ?_, by omega⟩
    split <;> omega
  · have hl := insG_len (z := (min (i + 1) l.length : Nat)) (l := l) (idsI li e.2.2.1 hr) ⟨by omega, by omega⟩
    rw [idsI_length] at hl
    dsimp only
    rw [hl]
    refine ⟨rfl, ?_, by omega⟩
    split <;> omega
/-- What holds along a run: n glyphs at first. -/
structure InI (n left : Nat) (x : IX) (z : Nat) : Prop where
  len : x.1.length = n + x.2.2.1
  mark : MarkI x.1 x.2.1
  most : x.2.2.1 ≤ left
  at_ : z ≤ x.1.length
theorem actI_in {n left : Nat} (li : List UInt8) (x : IX) (z : Nat) (e : Ent) (h : InI n left x z) : InI n left (actI li left x z e).1 (max (actI li left x z e).2.1 0).toNat ∧ (z < x.1.length → InI n left (actI li left x z e).1 (max (actI li left x z e).2.2 0).toNat) := by
  obtain ⟨l, mark, done, over⟩ := x
  obtain ⟨h1, h2, h3, h4⟩ := h
  simp only at h1 h2 h3 h4
  unfold actI
  simp only
  split
  · exact ⟨⟨h1, h2, h3, by dsimp only; omega⟩, fun hz => ⟨h1, h2, h3, by dsimp only; omega⟩⟩
  obtain ⟨mk, hmk⟩ : ∃ mk, mk = if mark < 0 then 0 else markI e := ⟨_, rfl⟩
  have h0 : mark < 0 → mk = 0 := fun h => by rw [hmk, if_pos h]
  rw [← hmk]
  clear hmk
  split
  · exact ⟨⟨h1, h2, h3, by dsimp only; omega⟩, fun hz => ⟨h1, h2, h3, by dsimp only; omega⟩⟩
  rename_i hb
  obtain ⟨p1, p2, p3, p4⟩ := putM_is (li := li) e h2 h4 h0
  generalize putM li l mark z e mk = m at *
  obtain ⟨l1, i, mark1⟩ := m
  simp only at p1 p2 p3 p4 ⊢
  split
  · exact ⟨⟨by show l1.length = n + (done + mk); omega, p2, by show done + mk ≤ left; omega, by dsimp only; omega⟩, fun hz => ⟨by show l1.length = n + (done + mk); omega, p2, by show done + mk ≤ left; omega, by have := p4 hz; dsimp only; omega⟩⟩
  rename_i hc
  obtain ⟨r1, r2, r3⟩ := putH_is (li := li) e (hr := hereI e) p2 p3
  generalize putH li l1 mark1 i e (hereI e) = h at *
  obtain ⟨l2, nx, mark2⟩ := h
  simp only at r1 r2 r3 ⊢
  have hM : MarkI l2 (if 32768 ≤ e.2.1 ∧ i < l1.length then (nx : Int) else mark2) := by
    split
    · rename_i hx
      have := r3 hx.2
      unfold MarkI
      omega
    · exact r2
  exact ⟨⟨by show l2.length = n + (done + mk + hereI e); omega, hM, by show done + mk + hereI e ≤ left; omega, by dsimp only; omega⟩, fun hz => ⟨by show l2.length = n + (done + mk + hereI e); omega, hM, by show done + mk + hereI e ≤ left; omega, by have := p4 hz; dsimp only; omega⟩⟩
theorem actI_over (li : List UInt8) (left : Nat) (x : IX) (z : Nat) (e : Ent) (h : x.2.2.2 = true) : (actI li left x z e).1 = x := by
  unfold actI
  rw [if_pos h]
end Go.Proofs.Ytlgkikmmpnnnfaa
end
section

/- What a subtable of layer 17, or 18, is, as its bytes tell it; and the plan that makes one glyph of two: what its bytes tell, and what it does to a line of glyphs 0 and a last one 1. No walk. Conditions: actions of four bytes, no more than two hundred. -/
namespace Go.Proofs.Ytlgkikmmpnnnfaa
open Go.RowKit Go.Lib

/-- Such a subtable, as its bytes tell it: layer 17. -/
structure JOk (bs : List UInt8) (glyphs : Nat) (rs : List RP) (S : Nat) : Prop where
  mok : MOk bs glyphs 1 rs S
  l28 : 28 ≤ bs.length
  at_ : num bs 16 4 ≤ bs.length ∧ num bs 20 4 ≤ bs.length ∧ num bs 24 4 ≤ bs.length
  acts : ∀ j, j < needE bs S → (entX (bs.drop (num bs 12 4)) 1 j).2.1 / 8192 % 2 = 1 → ∃ k, (entX (bs.drop (num bs 12 4)) 1 j).2.2.1 ≤ k ∧ num bs 16 4 + 4 * k + 4 ≤ bs.length ∧ 2147483648 ≤ num bs (num bs 16 4 + 4 * k) 4
theorem JOk.det {bs : List UInt8} {glyphs : Nat} {r1 r2 : List RP} {S1 S2 : Nat} (h1 : JOk bs glyphs r1 S1) (h2 : JOk bs glyphs r2 S2) : r1 = r2 ∧ S1 = S2 := h1.mok.det h2.mok
/-- Likewise of layer 18. -/
structure IOk (bs : List UInt8) (glyphs : Nat) (rs : List RP) (S : Nat) : Prop where
  mok : MOk bs glyphs 2 rs S
  l20 : 20 ≤ bs.length
  at_ : num bs 16 4 ≤ bs.length
  each : ∀ j, j < needE bs S → (0 < hereI (entX (bs.drop (num bs 12 4)) 2 j) → num bs 16 4 + 2 * (entX (bs.drop (num bs 12 4)) 2 j).2.2.1 + 2 * hereI (entX (bs.drop (num bs 12 4)) 2 j) ≤ bs.length) ∧ (0 < markI (entX (bs.drop (num bs 12 4)) 2 j) → num bs 16 4 + 2 * (entX (bs.drop (num bs 12 4)) 2 j).2.2.2 + 2 * markI (entX (bs.drop (num bs 12 4)) 2 j) ≤ bs.length)
theorem IOk.det {bs : List UInt8} {glyphs : Nat} {r1 r2 : List RP} {S1 S2 : Nat} (h1 : IOk bs glyphs r1 S1) (h2 : IOk bs glyphs r2 S2) : r1 = r2 ∧ S1 = S2 := h1.mok.det h2.mok

section
variable (acts : List Nat)
end
end Go.Proofs.Ytlgkikmmpnnnfaa
end
section

/- WholeGrows along a line: a subtable of layer 18 puts a glyph behind each; a subtable of layer 17 makes one of each and the one that was put. No walk; what the bytes tell is laid down as it is asked for. -/
namespace Go.Proofs.Ytlgkikmmpnnnfaa
open Go.RowKit Go.Lib

theorem range_get {α : Type} (f : Nat → α) (N i : Nat) (h : i < N) : ((List.range N).map f)[i]? = some (f i) := by
  rw [List.getElem?_map, List.getElem?_range h]
  rfl
theorem range_none {α : Type} (f : Nat → α) (N i : Nat) (h : N ≤ i) : ((List.range N).map f)[i]? = none := by
  rw [List.getElem?_eq_none]
  simpa using h
theorem range_set {α : Type} (f : Nat → α) (N i : Nat) (v : α) : ((List.range N).map f).set i v = (List.range N).map fun j => if j = i then v else f j := by
  apply List.ext_getElem?
  intro j
  rw [List.getElem?_set]
  by_cases hj : j < N
  · rw [range_get _ N j hj, range_get _ N j hj]
    by_cases h : i = j
    · subst h
      simp [hj]
    · rw [if_neg h, if_neg (fun e => h e.symm)]
  · rw [range_none _ N j (by omega), range_none _ N j (by omega)]
    split
    · simp; omega
    · rfl
/-- Behind k of n glyphs: each of these has a 9 behind it. -/
def growF (t : Nat → Int) (n k i : Nat) : Int × Int := if i < 2 * k then (if i % 2 = 0 then (t (i / 2), ((i / 2 : Nat) : Int)) else (9, ((min (i / 2 + 1) (n - 1) : Nat) : Int))) else (t (i - k), ((i - k : Nat) : Int))
def growL (t : Nat → Int) (n k : Nat) : List (Int × Int) := (List.range (n + k)).map (growF t n k)
theorem growL_length (t : Nat → Int) (n k : Nat) : (growL t n k).length = n + k := by simp [growL]
theorem growL_step (t : Nat → Int) (n k : Nat) (h : k < n) : insG (growL t n k) ((min (2 * k + 1) (growL t n k).length : Nat) : Int) [9] = growL t n (k + 1) := by
  rw [growL_length, Nat.min_eq_left (by omega)]
  unfold insG
  rw [if_pos (by unfold okI; rw [growL_length]; simp; omega), Int.toNat_natCast]
  have hc : insC (growL t n k) (2 * k + 1) = ((min (k + 1) (n - 1) : Nat) : Int) := by
    unfold insC
    rw [growL_length]
    have hi : (if 2 * k + 1 < n + k then 2 * k + 1 else n + k - 1) < n + k := by split <;> omega
    rw [List.getD_eq_getElem?_getD]
    unfold growL
    rw [range_get _ _ _ hi]
    unfold growF
    rw [if_neg (by split <;> omega)]
    show (((if 2 * k + 1 < n + k then 2 * k + 1 else n + k - 1) - k : Nat) : Int) = _
    split <;> omega
  rw [hc]
  apply List.ext_getElem?
  intro i
  show ((growL t n k).take (2 * k + 1) ++ ([((9 : Int), ((min (k + 1) (n - 1) : Nat) : Int))] ++ (growL t n k).drop (2 * k + 1)))[i]? = (growL t n (k + 1))[i]?
  have hl : ((growL t n k).take (2 * k + 1)).length = 2 * k + 1 := by rw [List.length_take, growL_length]; omega
  by_cases h1 : i < 2 * k + 1
  · rw [List.getElem?_append_left (by omega), List.getElem?_take, if_pos h1]
    unfold growL
    rw [range_get _ _ _ (by omega), range_get _ _ _ (by omega)]
    unfold growF
    by_cases h2 : i < 2 * k
    · have h3 : i < 2 * (k + 1) := by omega
      rw [if_pos h2, if_pos h3]
    · obtain rfl : i = 2 * k := by omega
      rw [if_neg (by omega), if_pos (by omega), if_pos (by omega), show 2 * k - k = k from by omega, show 2 * k / 2 = k from by omega]
  · rw [List.getElem?_append_right (by omega), hl]
    by_cases h2 : i = 2 * k + 1
    · subst h2
      rw [Nat.sub_self]
      unfold growL
      rw [range_get _ _ _ (by omega)]
      unfold growF
      rw [if_pos (by omega), if_neg (by omega), show (2 * k + 1) / 2 = k from by omega]
      rfl
    · obtain ⟨d, hd⟩ : ∃ d, i = 2 * k + 1 + 1 + d := ⟨i - (2 * k + 2), by omega⟩
      rw [hd, show 2 * k + 1 + 1 + d - (2 * k + 1) = d + 1 from by omega]
      show ((growL t n k).drop (2 * k + 1))[d]? = _
      rw [List.getElem?_drop]
      unfold growL
      by_cases h3 : 2 * k + 1 + d < n + k
      · rw [range_get _ _ _ h3, range_get _ _ _ (by omega)]
        unfold growF
        rw [if_neg (by omega), if_neg (by omega), show 2 * k + 1 + d - k = 2 * k + 1 + 1 + d - (k + 1) from by omega]
      · rw [range_none _ _ _ (by omega), range_none _ _ _ (by omega)]
theorem actI_plain (li : List UInt8) (left : Nat) (l : List (Int × Int)) (d z : Nat) (e : Ent) (h : ¬ (0 < hereI e ∧ left < d + 0 + hereI e)) : actI li left (l, -1, d, false) z e = (((putH li l (-1) z e (hereI e)).1, if 32768 ≤ e.2.1 ∧ z < l.length then ((putH li l (-1) z e (hereI e)).2.1 : Int) else (putH li l (-1) z e (hereI e)).2.2, d + 0 + hereI e, false), (z : Int), (z : Int) + hereI e + 1) := by
  unfold actI
  rw [if_neg (fun h : false = true => by cases h)]
  dsimp only
  have hk : (if (-1 : Int) < 0 then 0 else markI e) = 0 := rfl
  have hm : putM li l (-1) z e 0 = (l, z, -1) := by unfold putM; rw [if_pos rfl]
  rw [hk, hm, if_neg (by omega)]
  dsimp only
  rw [if_neg h]
theorem runGrow {bs : List UInt8} {rs : List RP} {li : List UInt8} {t : Nat → Int} {n left : Nat} (hleft : n ≤ left) (h0 : enM bs 2 0 0 = (0, 0, 65535, 65535)) (hcl : ∀ k, k < n → enM bs 2 0 (classM bs rs (t k)) = (0, 32, 0, 65535)) (h9 : num li 0 2 = 9) :
    ∀ fu k, k ≤ n → n + 1 ≤ fu + k → runD (fun x z => clD bs rs x.1 z) (enM bs 2) (fun x z => decide (x.1.length ≤ z)) (actI li left) fu (growL t n k, -1, k, false) 0 (2 * k) 0 (k + 1) = ((growL t n n, -1, n, false), n + 1, 0) := by
  intro fu
  induction fu with
  | zero => intro k h1 h2; omega
  | succ fu ih =>
    intro k h1 h2
    by_cases hk : k < n
    · have hc : clD bs rs (growL t n k) (2 * k) = classM bs rs (t k) := by
        unfold clD growL
        rw [range_get _ _ _ (by omega)]
        unfold growF
        rw [if_neg (by omega), show 2 * k - k = k from by omega]
      have hids : idsI li 0 1 = [9] := by
        show [((num li (2 * (0 + 0)) 2 : Nat) : Int)] = [9]
        rw [show 2 * (0 + 0) = 0 from rfl, h9]
        rfl
      have hact : actI li left (growL t n k, -1, k, false) (2 * k) (0, 32, 0, 65535) = ((growL t n (k + 1), -1, k + 1, false), ((2 * k : Nat) : Int), ((2 * (k + 1) : Nat) : Int)) := by
        have hh : hereI (0, 32, 0, 65535) = 1 := rfl
        have hp : putH li (growL t n k) (-1) (2 * k) (0, 32, 0, 65535) 1 = (growL t n (k + 1), 2 * k, -1) := by
          unfold putH
          rw [if_neg (by decide), if_neg (show ¬ (32 / 2048 % 2 = 1) by decide), if_neg (by omega)]
          show (insG (growL t n k) ((min (2 * k + 1) (growL t n k).length : Nat) : Int) (idsI li 0 1), _, _) = _
          rw [hids, growL_step t n k hk]
        rw [actI_plain li left _ k (2 * k) _ (by rw [hh]; omega), hh, hp, if_neg (by rintro ⟨h, _⟩; exact absurd h (by decide))]
        have hd : ((2 * k : Nat) : Int) + ((1 : Nat) : Int) + 1 = ((2 * (k + 1) : Nat) : Int) := by omega
        rw [hd]
      unfold runD
      simp only [hc, hcl k hk, hact]
      rw [if_neg (by decide), if_neg (by rw [growL_length]; simp; omega), show (max ((2 * (k + 1) : Nat) : Int) 0).toNat = 2 * (k + 1) from by omega]
      exact ih (k + 1) (by omega) (by omega)
    · obtain rfl : k = n := by omega
      have hc : clD bs rs (growL t k k) (2 * k) = 0 := by
        unfold clD growL
        rw [range_none _ _ _ (by omega)]
      have hmk : (actI li left (growL t k k, -1, k, false) (2 * k) (0, 0, 65535, 65535)).1 = (growL t k k, -1, k, false) := by
        have hp : putH li (growL t k k) (-1) (2 * k) (0, 0, 65535, 65535) 0 = (growL t k k, 2 * k, -1) := by unfold putH; rw [if_pos rfl]
        have hh : hereI (0, 0, 65535, 65535) = 0 := rfl
        rw [actI_plain li left _ k (2 * k) _ (by rw [hh]; omega), hh, hp, if_neg (by rintro ⟨h, _⟩; exact absurd h (by decide))]
        rfl
      unfold runD
      simp only [hc, h0]
      rw [if_neg (by decide), if_pos (by rw [growL_length]; simp; omega), hmk]
/-- Behind k of n pairs: the second one of each is gone. -/
def joinF (t : Nat → Int) (n k i : Nat) : Int × Int := if i % 2 = 0 then (t (i / 2), ((i / 2 : Nat) : Int)) else (if i / 2 < k then 65535 else 9, ((min (i / 2 + 1) (n - 1) : Nat) : Int))
def lineJ (t : Nat → Int) (n k : Nat) : List (Int × Int) := (List.range (n + n)).map (joinF t n k)
theorem lineJ_length (t : Nat → Int) (n k : Nat) : (lineJ t n k).length = n + n := by simp [lineJ]
theorem lineJ_zero (t : Nat → Int) (n : Nat) : lineJ t n 0 = growL t n n := by
  unfold lineJ growL
  apply List.map_congr_left
  intro i hi
  have := List.mem_range.1 hi
  have h2 : i < 2 * n := by omega
  unfold joinF growF
  rw [if_pos h2, if_neg (Nat.not_lt_zero (i / 2))]
def placesJ (k : Nat) : List Int := (List.range k).map fun j : Nat => ((2 * j : Nat) : Int)
theorem placesJ_snoc (k : Nat) : placesJ k ++ [((2 * k : Nat) : Int)] = placesJ (k + 1) := by
  unfold placesJ
  rw [List.range_succ, List.map_append]
  rfl
theorem placesJ_last (k : Nat) : ∀ z, (placesJ k).getLast? = some z → z < ((2 * k : Nat) : Int) := by
  intro z h
  obtain ⟨j, hj, rfl⟩ := List.mem_map.1 (List.mem_of_getLast? h)
  have := List.mem_range.1 hj
  omega
theorem pushK_new {ps : List Int} {i : Int} (h1 : ps.length < 64) (h2 : ∀ z, ps.getLast? = some z → z < i) : pushK ps i = ps ++ [i] := by
  unfold pushK
  rw [if_neg (fun h => by have := h2 i h; omega), if_neg (by simp; omega)]
theorem oneL_pair (t : Nat → Int) (n k : Nat) (h : k < n) : oneL (lineJ t n k) ((2 * k : Nat) : Int) (t k) [((2 * k + 1 : Nat) : Int)] = lineJ t n (k + 1) := by
  have g0 : (lineJ t n k)[2 * k]? = some (t k, ((k : Nat) : Int)) := by
    unfold lineJ
    rw [range_get _ _ _ (by omega)]
    unfold joinF
    rw [if_pos (by omega), show 2 * k / 2 = k from by omega]
  have g1 : (lineJ t n k)[2 * k + 1]? = some (9, ((min (k + 1) (n - 1) : Nat) : Int)) := by
    unfold lineJ
    rw [range_get _ _ _ (by omega)]
    unfold joinF
    rw [if_neg (by omega), show (2 * k + 1) / 2 = k from by omega, if_neg (Nat.lt_irrefl k)]
  have hsame : (lineJ t n k).set (2 * k) (t k, ((k : Nat) : Int)) = lineJ t n k := by
    obtain ⟨hl, e⟩ := List.getElem?_eq_some_iff.1 g0
    rw [← e]
    exact List.set_getElem_self hl
  have h1 : setG (lineJ t n k) ((2 * k : Nat) : Int) (t k) = lineJ t n k := (setG_of g0 (t k)).trans hsame
  have h2 : joinG (lineJ t n k) ((2 * k : Nat) : Int) [((2 * k + 1 : Nat) : Int)] = lineJ t n k := by
    have hj : joinC (lineJ t n k) ((k : Nat) : Int) [((2 * k + 1 : Nat) : Int)] = ((k : Nat) : Int) := by
      unfold joinC
      rw [List.foldl_cons, List.foldl_nil, atG_of g1, if_neg (by rintro ⟨_, h⟩; dsimp only at h; omega)]
    unfold joinG
    rw [if_pos (inG_of g0), atG_of g0, hj, Int.toNat_natCast]
    exact hsame
  unfold oneL
  rw [h1, h2]
  show setG (lineJ t n k) ((2 * k + 1 : Nat) : Int) 65535 = _
  rw [setG_of g1]
  unfold lineJ
  rw [range_set]
  apply List.map_congr_left
  intro i hi
  unfold joinF
  by_cases h : i = 2 * k + 1
  · subst h
    rw [if_pos rfl, if_neg (by omega), show (2 * k + 1) / 2 = k from by omega, if_pos (Nat.lt_succ_self k)]
  · rw [if_neg h]
    by_cases h2 : i % 2 = 0
    · rw [if_pos h2, if_pos h2]
    · rw [if_neg h2, if_neg h2]
      by_cases h3 : i / 2 < k
      · rw [if_pos h3, if_pos (by omega)]
      · rw [if_neg h3, if_neg (by omega)]
theorem perfL_pair {ac co li : List UInt8} {t : Nat → Int} {n k : Nat} (hk : k < n) (hn : n ≤ 60) (ht : 0 ≤ t k) (a0 : num ac (4 * 0) 4 = 0) (a1 : num ac (4 * 1) 4 = 2147483648) (c9 : atN co 9 = 0) (ct : atN co (t k) = t k) (lt : atN li (t k) = t k) :
    perfL ac co li (k + 2) (lineJ t n k) (placesJ (k + 1) ++ [((2 * k + 1 : Nat) : Int)]) 0 0 [] = (lineJ t n (k + 1), placesJ (k + 1)) := by
  have g0 : atG (lineJ t n k) ((2 * k : Nat) : Int) = (t k, ((k : Nat) : Int)) := atG_of (by
    unfold lineJ
    rw [range_get _ _ _ (by omega)]
    unfold joinF
    rw [if_pos (by omega), show 2 * k / 2 = k from by omega])
  have g1 : atG (lineJ t n k) ((2 * k + 1 : Nat) : Int) = (9, ((min (k + 1) (n - 1) : Nat) : Int)) := atG_of (by
    unfold lineJ
    rw [range_get _ _ _ (by omega)]
    unfold joinF
    rw [if_neg (by omega), show (2 * k + 1) / 2 = k from by omega, if_neg (Nat.lt_irrefl k)])
  have o0 : offA 0 = 0 := by decide
  have o1 : offA 2147483648 = 0 := by decide
  have l1 : (placesJ (k + 1) ++ [((2 * k + 1 : Nat) : Int)]).getLast? = some ((2 * k + 1 : Nat) : Int) := by simp
  have d1 : (placesJ (k + 1) ++ [((2 * k + 1 : Nat) : Int)]).dropLast = placesJ (k + 1) := by simp
  have l2 : (placesJ (k + 1)).getLast? = some ((2 * k : Nat) : Int) := by rw [← placesJ_snoc]; simp
  have d2 : (placesJ (k + 1)).dropLast = placesJ k := by rw [← placesJ_snoc]; simp
  have hp : pushK (placesJ k) ((2 * k : Nat) : Int) = placesJ (k + 1) := by
    rw [pushK_new (by simp [placesJ]; omega) (placesJ_last k), placesJ_snoc]
  rw [perfL]
  simp only [l1, d1, a0, g1, o0, Int.add_zero, c9]
  rw [if_neg (by decide), if_neg (by decide), perfL]
  have e1 : num ac (4 * (0 + 1)) 4 = 2147483648 := a1
  simp only [l2, d2, e1, g0, o1, Int.add_zero, ct]
  rw [if_neg (by omega), if_pos (by omega), Int.zero_add, lt, if_neg (by omega), if_pos (by omega), hp]
  show (oneL (lineJ t n k) ((2 * k : Nat) : Int) (t k) [((2 * k + 1 : Nat) : Int)], placesJ (k + 1)) = _
  rw [oneL_pair t n k hk]
theorem runJoin {bs : List UInt8} {rs : List RP} {ac co li : List UInt8} {t : Nat → Int} {n : Nat} (hn : n ≤ 60) (h0 : enM bs 1 0 0 = (0, 0, 0, 0)) (h4 : enM bs 1 0 4 = (0, 32768, 0, 0)) (h5 : enM bs 1 0 5 = (0, 40960, 0, 0)) (ct : ∀ k, k < n → classM bs rs (t k) = 4) (c9 : classM bs rs 9 = 5)
    (ht : ∀ k, k < n → 0 ≤ t k) (a0 : num ac (4 * 0) 4 = 0) (a1 : num ac (4 * 1) 4 = 2147483648) (o9 : atN co 9 = 0) (ot : ∀ k, k < n → atN co (t k) = t k) (lt : ∀ k, k < n → atN li (t k) = t k) :
    ∀ fu k, k ≤ n → 2 * n + 1 ≤ fu + 2 * k → ∃ ps, runD (fun x z => clD bs rs x.1 z) (enM bs 1) (fun x z => decide (x.1.length ≤ z)) (actL ac co li) fu (lineJ t n k, placesJ k) 0 (2 * k) 0 (2 * k + 1) = ((lineJ t n n, ps), 2 * n + 1, 0) := by
  intro fu
  induction fu using Nat.strongRecOn with
  | ind fu ih =>
    intro k h1 h2
    by_cases hk : k < n
    · obtain ⟨fv, rfl⟩ : ∃ fv, fu = fv + 2 := ⟨fu - 2, by omega⟩
      have hca : clD bs rs (lineJ t n k) (2 * k) = 4 := by
        unfold clD lineJ
        rw [range_get _ _ _ (by omega)]
        unfold joinF
        rw [if_pos (by omega), show 2 * k / 2 = k from by omega]
        exact ct k hk
      have hcb : clD bs rs (lineJ t n k) (2 * k + 1) = 5 := by
        unfold clD lineJ
        rw [range_get _ _ _ (by omega)]
        unfold joinF
        rw [if_neg (by omega), show (2 * k + 1) / 2 = k from by omega, if_neg (Nat.lt_irrefl k)]
        exact c9
      have ka : keepL (lineJ t n k, placesJ k) (2 * k) 32768 = placesJ (k + 1) := by
        unfold keepL
        rw [if_pos ⟨by decide, by rw [lineJ_length]; omega⟩]
        show pushK (placesJ k) ((2 * k : Nat) : Int) = _
        rw [pushK_new (by simp [placesJ]; omega) (placesJ_last k), placesJ_snoc]
      have kb : keepL (lineJ t n k, placesJ (k + 1)) (2 * k + 1) 40960 = placesJ (k + 1) ++ [((2 * k + 1 : Nat) : Int)] := by
        unfold keepL
        rw [if_pos ⟨by decide, by rw [lineJ_length]; omega⟩]
        show pushK (placesJ (k + 1)) ((2 * k + 1 : Nat) : Int) = _
        rw [pushK_new (by simp [placesJ]; omega) (fun z hz => by
          rw [← placesJ_snoc] at hz
          simp at hz
          omega)]
      have aa : actL ac co li (lineJ t n k, placesJ k) (2 * k) (0, 32768, 0, 0) = ((lineJ t n k, placesJ (k + 1)), ((2 * k : Nat) : Int), ((2 * k : Nat) : Int) + 1) := by
        unfold actL
        rw [if_neg (show ¬ (32768 / 8192 % 2 = 1) by decide)]
        dsimp only
        rw [ka]
      have ab : actL ac co li (lineJ t n k, placesJ (k + 1)) (2 * k + 1) (0, 40960, 0, 0) = ((lineJ t n (k + 1), placesJ (k + 1)), ((2 * k + 1 : Nat) : Int), ((2 * k + 1 : Nat) : Int) + 1) := by
        unfold actL
        rw [if_pos (show 40960 / 8192 % 2 = 1 by decide)]
        dsimp only
        rw [kb, show (placesJ (k + 1) ++ [((2 * k + 1 : Nat) : Int)]).length = k + 2 from by simp [placesJ], perfL_pair hk hn (ht k hk) a0 a1 o9 (ot k hk) (lt k hk)]
      unfold runD
      simp only [hca, h4, aa]
      rw [if_neg (by decide), if_neg (by rw [lineJ_length]; simp; omega), show (max (((2 * k : Nat) : Int) + 1) 0).toNat = 2 * k + 1 from by omega]
      unfold runD
      simp only [hcb, h5, ab]
      rw [if_neg (by decide), if_neg (by rw [lineJ_length]; simp; omega), show (max (((2 * k + 1 : Nat) : Int) + 1) 0).toNat = 2 * (k + 1) from by omega, show 2 * k + 1 + 1 + 1 = 2 * (k + 1) + 1 from by omega]
      exact ih fv (by omega) (k + 1) (by omega) (by omega)
    · obtain rfl : k = n := by omega
      obtain ⟨fv, rfl⟩ : ∃ fv, fu = fv + 1 := ⟨fu - 1, by omega⟩
      have hc : clD bs rs (lineJ t k k) (2 * k) = 0 := by
        unfold clD lineJ
        rw [range_none _ _ _ (by omega)]
      have ae : (actL ac co li (lineJ t k k, placesJ k) (2 * k) (0, 0, 0, 0)).1.1 = lineJ t k k := by
        unfold actL
        rw [if_neg (show ¬ (0 / 8192 % 2 = 1) by decide)]
      unfold runD
      simp only [hc, h0]
      rw [if_neg (by decide), if_pos (by rw [lineJ_length]; simp; omega)]
      exact ⟨(actL ac co li (lineJ t k k, placesJ k) (2 * k) (0, 0, 0, 0)).1.2, Prod.ext (Prod.ext ae rfl) rfl⟩
/-- What is left of it without the glyphs that are gone. -/
theorem lineJ_clean (t : Nat → Int) (n : Nat) (ht : ∀ k, k < n → t k ≠ 65535) : (lineJ t n n).filter (fun p => decide (p.1 ≠ 65535)) = (List.range n).map fun k => (t k, ((k : Nat) : Int)) := by
  have key : ∀ m, m ≤ n → ((List.range (m + m)).map (joinF t n n)).filter (fun p => decide (p.1 ≠ 65535)) = (List.range m).map fun k => (t k, ((k : Nat) : Int)) := by
    intro m
    induction m with
    | zero => intro _; rfl
    | succ m ih =>
      intro hm
      rw [show m + 1 + (m + 1) = m + m + 1 + 1 from by omega, List.range_succ, List.range_succ, List.map_append, List.map_append, List.filter_append, List.filter_append, ih (by omega), List.range_succ, List.map_append]
      have e0 : joinF t n n (m + m) = (t m, ((m : Nat) : Int)) := by
        unfold joinF
        rw [if_pos (by omega), show (m + m) / 2 = m from by omega]
      have e1 : (joinF t n n (m + m + 1)).1 = 65535 := by
        unfold joinF
        rw [if_neg (by omega), show (m + m + 1) / 2 = m from by omega, if_pos (by omega)]
      have := ht m (by omega)
      simp [e0, e1, this]
  exact key n (Nat.le_refl _)
end Go.Proofs.Ytlgkikmmpnnnfaa
end
section

/- The plans of layer 18's first question and of WholeGrows: what their bytes tell. No walk, no condition. -/
namespace Go.Proofs.Ytlgkikmmpnnnfaa
open Go.RowKit Go.Lib

/-- One behind each glyph, but not at the end. -/
def planG : PlanL := ⟨[], [[1, 0], [1, 0]], [(0, 32, 0, 65535), (0, 0, 65535, 65535)], 0⟩
def putG : List UInt8 := insB planG [9]
/-- Each glyph below 9, and a 9 behind it, become that glyph. -/
def planT : PlanL := ⟨[4, 4, 4, 4, 4, 4, 4, 4, 4, 5], [[0, 0, 0, 0, 1, 2], [0, 0, 0, 0, 1, 2]], [(0, 0, 0, 0), (0, 32768, 0, 0), (0, 40960, 0, 0)], 2⟩
def takeT : List UInt8 := ligB planT [0, 2147483648] [0, 1, 2, 3, 4, 5, 6, 7, 8, 0] [0, 1, 2, 3, 4, 5, 6, 7, 8, 9]
def rsT : List RP := rowsT 0 10 6 2
theorem putG_nums : putG.length = 60 ∧ num putG 0 4 = 4 ∧ num putG 4 4 = 20 ∧ num putG 8 4 = 26 ∧ num putG 12 4 = 42 ∧ num putG 16 4 = 58 ∧ needE putG 2 = 2 ∧ needS putG 2 2 ≤ 2 ∧ num (putG.drop 20) 0 2 = 8 ∧ num (putG.drop 20) 2 2 = 0 ∧ num (putG.drop 20) 4 2 = 0 ∧ entX (putG.drop 42) 2 0 = (0, 32, 0, 65535) ∧ entX (putG.drop 42) 2 1 = (0, 0, 65535, 65535) ∧ enM putG 2 0 0 = (0, 0, 65535, 65535) ∧ enM putG 2 0 1 = (0, 32, 0, 65535) ∧ num (putG.drop 58) 0 2 = 9 := by decide +kernel
theorem takeT_nums : takeT.length = 144 ∧ num takeT 0 4 = 6 ∧ num takeT 4 4 = 28 ∧ num takeT 8 4 = 54 ∧ num takeT 12 4 = 78 ∧ num takeT 16 4 = 96 ∧ num takeT 20 4 = 104 ∧ num takeT 24 4 = 124 ∧ needE takeT 2 = 3 ∧ needS takeT 1 3 ≤ 2 ∧ num (takeT.drop 28) 0 2 = 8 ∧ num (takeT.drop 28) 2 2 = 0 ∧ num (takeT.drop 28) 4 2 = 10 ∧ enM takeT 1 0 0 = (0, 0, 0, 0) ∧ enM takeT 1 0 4 = (0, 32768, 0, 0) ∧ enM takeT 1 0 5 = (0, 40960, 0, 0) ∧ (∀ j, j < 3 → (entX (takeT.drop 78) 1 j).2.2.1 = 0) := by decide +kernel
theorem takeT_lists : num (takeT.drop 96) (4 * 0) 4 = 0 ∧ num (takeT.drop 96) (4 * 1) 4 = 2147483648 ∧ atN (takeT.drop 104) 9 = 0 ∧ (∀ k : Fin 9, atN (takeT.drop 104) (k.val : Nat) = (k.val : Nat)) ∧ (∀ k : Fin 9, atN (takeT.drop 124) (k.val : Nat) = (k.val : Nat)) := by decide +kernel
theorem takeT_class : (∀ k : Fin 9, classM takeT rsT (k.val : Nat) = 4) ∧ classM takeT rsT 9 = 5 := by decide +kernel
theorem putG_class (k : Int) (h : k ≠ 65535) : classM putG [] k = 1 := by
  unfold classM
  rw [if_neg h]
  rfl
theorem eight_ok {bs : List UInt8} {glyphs m : Nat} (h0 : num bs 0 2 = 8) (h2 : num bs 2 2 = 0) (h4 : num bs 4 2 = m) (hm : m ≤ 65535) (hl : 6 + 2 * m ≤ bs.length) : LkOk bs glyphs 2 (rowsT 0 m 6 2) := by
  have := LkRows.eight (bs := bs) (glyphs := glyphs) (size := 2) (by omega) h0 (by omega)
  rw [h2, h4] at this
  exact ⟨this, (ok_rowsT _ _ _ _ _ (by omega)).2 (by omega)⟩
theorem putG_ok (glyphs : Nat) : IOk putG glyphs [] 2 := by
  obtain ⟨hl, n0, n4, n8, n12, n16, hE, hS, a0, a2, a4, x0, x1, _, _, _⟩ := putG_nums
  have hlk : LkOk (putG.drop (num putG 4 4)) glyphs 2 [] := by rw [n4]; exact eight_ok a0 a2 a4 (by decide) (by rw [List.length_drop, hl]; decide)
  refine ⟨⟨by omega, by rw [n0]; decide, by omega, hlk, by omega, by omega, ⟨⟨by decide, by rw [hE]; exact hS⟩, fun S' h => h.1⟩, by rw [n0, n8, hl]; decide, by rw [hE, n12, hl]; decide⟩, by omega, by omega, fun j hj => ?_⟩
  rw [hE] at hj
  rcases (show j = 0 ∨ j = 1 by omega) with rfl | rfl
  · rw [n12, n16, x0, hl]
    decide
  · rw [n12, n16, x1, hl]
    decide
theorem takeT_ok (glyphs : Nat) : JOk takeT glyphs rsT 2 := by
  obtain ⟨hl, n0, n4, n8, n12, n16, n20, n24, hE, hS, a0, a2, a4, _, _, _, hA⟩ := takeT_nums
  obtain ⟨_, l1, _⟩ := takeT_lists
  have hlk : LkOk (takeT.drop (num takeT 4 4)) glyphs 2 rsT := by rw [n4]; exact eight_ok a0 a2 a4 (by decide) (by rw [List.length_drop, hl]; decide)
  refine ⟨⟨by omega, by rw [n0]; decide, by omega, hlk, by omega, by omega, ⟨⟨by decide, by rw [hE]; exact hS⟩, fun S' h => h.1⟩, by rw [n0, n8, hl]; decide, by rw [hE, n12, hl]; decide⟩, by omega, ⟨by omega, by omega, by omega⟩, fun j hj _ => ⟨1, ?_, by omega, ?_⟩⟩
  · rw [hE] at hj
    rw [n12, hA j hj]
    decide
  · rw [n16, ← num_dropS, l1]
    exact Nat.le_refl _
/-- What the two do to a text, one behind the other. -/
theorem grow_join (t : Nat → Int) (n : Nat) (hn : n ≤ 60) (ht : ∀ k, k < n → 0 ≤ t k ∧ t k < 9) :
    (∃ r, insD putG [] (putG.drop (num putG 16 4)) n ((List.range n).map fun k => (t k, ((k : Nat) : Int))) = ((lineJ t n 0, -1, n, false), r, 0)) ∧ ∃ ps r, ligD takeT rsT (takeT.drop (num takeT 16 4)) (takeT.drop (num takeT 20 4)) (takeT.drop (num takeT 24 4)) (lineJ t n 0) = ((lineJ t n n, ps), r, 0) := by
  obtain ⟨_, _, _, _, _, n16, _, _, _, _, _, _, _, e0, e1, l9⟩ := putG_nums
  obtain ⟨_, _, _, _, _, m16, m20, m24, _, _, _, _, _, f0, f4, f5, _⟩ := takeT_nums
  obtain ⟨b0, b1, o9, ot, lt⟩ := takeT_lists
  obtain ⟨ct, c9⟩ := takeT_class
  have hfin : ∀ k, k < n → ∃ i : Fin 9, t k = (i.val : Nat) := fun k hk => ⟨⟨(t k).toNat, by have := ht k hk; omega⟩, by have := ht k hk; show t k = ((t k).toNat : Int); omega⟩
  constructor
  · refine ⟨n + 1, ?_⟩
    have hg : ((List.range n).map fun k => (t k, ((k : Nat) : Int))) = growL t n 0 := by
      unfold growL growF
      apply List.map_congr_left
      intro i _
      rw [if_neg (by omega)]
      rfl
    rw [hg, n16]
    unfold insD
    rw [growL_length, lineJ_zero]
    have := runGrow (bs := putG) (rs := []) (li := putG.drop 58) (t := t) (n := n) (left := n) (Nat.le_refl _) e0 (fun k hk => by rw [putG_class _ (by have := ht k hk; omega)]; exact e1) l9 (2 * (n + 0) + 128) 0 (Nat.zero_le _) (by omega)
    exact this
  · have := runJoin (bs := takeT) (rs := rsT) (ac := takeT.drop 96) (co := takeT.drop 104) (li := takeT.drop 124) (t := t) (n := n) hn f0 f4 f5 (fun k hk => by obtain ⟨i, e⟩ := hfin k hk; rw [e]; exact ct i) c9 (fun k hk => (ht k hk).1) b0 b1 o9 (fun k hk => by obtain ⟨i, e⟩ := hfin k hk; rw [e]; exact ot i) (fun k hk => by obtain ⟨i, e⟩ := hfin k hk; rw [e]; exact lt i) (2 * (n + n) + 128) 0 (Nat.zero_le _) (by omega)
    obtain ⟨ps, h⟩ := this
    refine ⟨ps, 2 * n + 1, ?_⟩
    rw [m16, m20, m24]
    unfold ligD
    rw [lineJ_length]
    exact h
end Go.Proofs.Ytlgkikmmpnnnfaa
end
section

/- Subtables of layers 17 and 18 whose entries do nothing: the line stays. No walk; conditions: the entries that the machine needs are such. -/
namespace Go.Proofs.Ytlgkikmmpnnnfaa
open Go.RowKit Go.Lib

theorem insG_ids {l : List (Int × Int)} (h : IdsOk l) (z : Int) (ids : List Int) (hi : ∀ y ∈ ids, 0 ≤ y ∧ y ≤ 65535) : IdsOk (insG l z ids) := by
  unfold insG
  split
  · intro p hp
    rcases List.mem_append.1 hp with hp | hp
    · exact h p (List.mem_of_mem_take hp)
    rcases List.mem_append.1 hp with hp | hp
    · obtain ⟨y, hy, rfl⟩ := List.mem_map.1 hp
      have := hi y hy
      exact ⟨by show _ ≤ y; omega, by show y ≤ _; omega⟩
    · exact h p (List.mem_of_mem_drop hp)
  · exact h
theorem actI_ids (li : List UInt8) (left : Nat) (x : IX) (z : Nat) (e : Ent) (h : IdsOk x.1) : IdsOk (actI li left x z e).1.1 := by
  have hM : ∀ mk, IdsOk (putM li x.1 x.2.1 z e mk).1 := fun mk => by
    unfold putM
    split
    · exact h
    split <;> exact insG_ids h _ _ (idsI_le _ _ _)
  have hH : ∀ l m i hr, IdsOk l → IdsOk (putH li l m i e hr).1 := fun l m i hr h => by
    unfold putH
    split
    · exact h
    split <;> exact insG_ids h _ _ (idsI_le _ _ _)
  unfold actI
  simp only
  generalize (if x.2.1 < 0 then 0 else markI e) = mk
  split
  · exact h
  split
  · exact h
  split
  · exact hM mk
  · exact hH _ _ _ _ (hM mk)
theorem insD_ids (bs : List UInt8) (rs : List RP) (li : List UInt8) (left : Nat) (l : List (Int × Int)) (h : IdsOk l) : IdsOk (insD bs rs li left l).1.1 :=
  runD_keeps (fun x : IX => IdsOk x.1) (fun x z e h => actI_ids li left x z e h) _ _ _ _ _ _ h
end Go.Proofs.Ytlgkikmmpnnnfaa
end
