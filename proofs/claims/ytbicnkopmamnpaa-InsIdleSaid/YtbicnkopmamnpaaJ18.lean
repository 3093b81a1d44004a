/- Joined from: CWrite XRun XRead CEight DEnt DBits DSpec KSwap KSpec KRead KLaw KReadW CMap CList CAsk CTake DRef DWay KRef DRun CRun CRead CSpk KRun CIdleP XBytes XLig XLong XIns XPair XStay DRunG XGrow XPut COpen. -/
import Derived.Test.YtbicnkopmamnpaaJ14
import Derived.Test.YtbicnkopmamnpaaJ04
import Derived.Test.YtbicnkopmamnpaaJ03
import Derived.Test.YtbicnkopmamnpaaJ16
import Derived.Test.YtbicnkopmamnpaaJ08
import Derived.Test.YtbicnkopmamnpaaJ15
import Derived.Test.YtbicnkopmamnpaaJ01
import Derived.Test.YtbicnkopmamnpaaJ12
import Derived.Deep.WholeRow
import Derived.Maps.OwnOps
import Derived.Maps.OwnSet
import Derived.Test.YtbicnkopmamnpaaJ09
import Derived.ChangeSame
section

/- The bytes of a subtable of layer 15 as its law writes them: swashlaw15.Write. Conditions: a machine's plan and lookups in memory; sizes. -/
namespace Go.Proofs.Ytbicnkopmamnpaa
open Go.RowKit Go.Lib

/-- A lookup of glyphs from 0 on, in a row. -/
def vals16 (l : List Nat) : List UInt8 := l.flatMap fun x => beN 2 x
theorem vals16_length (l : List Nat) : (vals16 l).length = 2 * l.length := by
  induction l with
  | nil => rfl
  | cons x l ih => simp only [vals16, List.flatMap_cons, List.length_append, beN_length, List.length_cons] at *; omega
theorem vals16_snoc (l : List Nat) (q : Nat) (h : q < l.length) : vals16 (l.take (q + 1)) = vals16 (l.take q) ++ beN 2 (l.getD q 0) := by
  unfold vals16
  rw [List.take_add_one, List.flatMap_append, List.getElem?_eq_getElem h, List.getD_eq_getElem?_getD, List.getElem?_eq_getElem h]
  simp
theorem splice_take {α : Type} (L cs : List α) (o n : Nat) (h : o + cs.length ≤ n) (hn : n ≤ L.length) : (splice L o cs).take n = splice (L.take n) o cs := by
  unfold splice
  rw [List.take_append, List.take_append, List.take_take, List.take_take, List.length_take, Nat.min_eq_left (by omega : o ≤ L.length), Nat.min_eq_right (by omega : o ≤ n), Nat.min_eq_left (by omega : o ≤ n), List.take_of_length_le (by omega : cs.length ≤ n - o), List.drop_take, Nat.sub_sub]
/-- 'copy' into the middle of a row of the call's own. -/
theorem wpCopyRow {P : Program} {w : World} {o : Oper} {a : Act} {K : Act → World → Prop} {Q : Exit → Act → World → Prop} (d s : Operand) (dT sT : TypeId)
    (ho : o.op = .call { callee := .builtin .copy, args := #[d, s], argTypes := #[dT, sT] }) (elem : TypeId) (hu : P.underlying dT = some (.slice elem)) (hsz : (P.info? elem).map (·.size) = some 1)
    (base g n c : Nat) (xs : List Value) (hown : w.ownsRow base elem 1 (.slice (some ⟨g, 0, none⟩) n c) n xs)
    (off dLen dCap : Nat) (ad : Addr) (sLen sCap : Nat) (hd : a.eval d = .slice (some ⟨g, off, none⟩) dLen dCap) (hs : a.eval s = .slice (some ad) sLen sCap)
    (cs : List Value) (hn : cs.length = Nat.min sLen dLen * 1) (hsrc : ∀ j v, cs[j]? = some v → w.cell? (ad.add j) = some v) (hfit : off + cs.length ≤ n) (h1 : ∀ v ∈ cs, v.oneCell' = true)
    (h : ∀ w', w'.ownsRow base elem 1 (.slice (some ⟨g, 0, none⟩) n c) n (splice xs off cs) → (∀ k, k ≠ g → w'.heap[k]? = w.heap[k]?) → w'.heap.size = w.heap.size → Below g w w' → K (a.put o.dst (goInt (Nat.min sLen dLen))) w') : o.wp P a w K Q := by
  rcases hown.2 with ⟨hv, _⟩ | ⟨b, cap, cur, hv, hg, hh, hnc, hm, hcs, hx⟩
  · cases hv
  · injection hv with e1 _ e3
    injection e1 with e1
    injection e1 with e1 _ _
    subst e1 e3
    have hl : xs.length = n := by have := hown.1; omega
    refine wpCopyO d s dT sT ho elem 1 hu hsz g off dLen dCap ad sLen sCap hd hs cur elem hh cs hn hsrc (by omega) h1 fun w' g1 g2 g3 g4 => h w' ⟨?_, .inr ⟨g, c, _, rfl, hg, g1, hnc, hm, ?_, ?_⟩⟩ g2 g3 g4
    · rw [length_splice xs off cs (by omega), hl]; omega
    · rw [List.size_toArray, length_splice cur.toList off cs (by rw [Array.length_toList (xs := cur)]; omega), Array.length_toList (xs := cur), hcs]
    · rw [Nat.mul_one] at hx ⊢
      rw [← hx]
      exact splice_take _ cs off n (by omega) (by rw [Array.length_toList (xs := cur)]; omega)
theorem u8_one : (Try.prog.info? 5).map (·.size) = some 1 := by kernel_rfl
theorem owns_some {w : World} {base e size n c : Nat} {a : Option Addr} {xs : List Value} (h : w.ownsRow base e size (.slice a n c) n xs) (h0 : 0 < n) : ∃ g, a = some ⟨g, 0, none⟩ ∧ base ≤ g ∧ g < w.heap.size := by
  rcases h.2 with ⟨hv, h1⟩ | ⟨g, _, _, hv, hg, hh, _⟩
  · omega
  · injection hv with hv _ _
    exact ⟨g, hv, hg, (Array.getElem?_eq_some_iff.1 hh).1⟩
theorem bytesV_splice (X D : List UInt8) (o : Nat) : splice (bytesV X) o (bytesV D) = bytesV (splice X o D) := by
  simp [splice, bytesV, List.map_take, List.map_drop]
end Go.Proofs.Ytbicnkopmamnpaa
end
section

/- A lookup's glyphs in the places of a line's: what Run of a subtable of single glyphs does. Conditions: a subtable and a line in memory; sizes. -/
namespace Go.Proofs.Ytbicnkopmamnpaa
open Go.RowKit Go.Lib

theorem ownBlockS (a : Option Addr) (n c : Nat) : (Value.slice a n c).ownBlock = a.map (·.block) := by cases a <;> rfl
end Go.Proofs.Ytbicnkopmamnpaa
end
section

/- Read of a subtable of single glyphs, and what its law asks first. Conditions: bytes as the slice says. -/
namespace Go.Proofs.Ytbicnkopmamnpaa
open Go.RowKit Go.Lib

end Go.Proofs.Ytbicnkopmamnpaa
end
section

/- A lookup of glyphs from 0 on, in a row: what it is, and what it gives. Conditions: numbers of two bytes; no more than 65535 glyphs. -/
namespace Go.Proofs.Ytbicnkopmamnpaa
open Go.RowKit Go.Lib

end Go.Proofs.Ytbicnkopmamnpaa
end
section

/- What a plan's bytes tell of its entries' flags; entries as cells. No walk. -/
namespace Go.Proofs.Ytbicnkopmamnpaa
open Go.RowKit Go.Lib

theorem plan_ents (p : PlanL) (k room : Nat) (h : 22 + room + 2 * p.cls.length + 2 * (p.rows.length * p.n) ≤ 65535) : num (planB p k room) 12 4 = 22 + room + 2 * p.cls.length + 2 * (p.rows.length * p.n) := by
  simp only [planB, List.append_assoc]
  rw [numR _ _ 12 8 4 (by rw [beN_length]), numR _ _ 8 4 4 (by rw [beN_length]), numR _ _ 4 0 4 (by rw [beN_length]), numB4 _ _ (by omega)]
  omega
theorem entC4_len : ∀ l : List (Int × Int × Int × Int), (l.flatMap entC4).length = l.length * 4
  | [] => rfl
  | x :: l => by rw [List.flatMap_cons, List.length_append, entC4_len l, List.length_cons]; simp [entC4]; omega
theorem entC4_one (l : List (Int × Int × Int × Int)) : ∀ u ∈ l.flatMap entC4, u.oneCell' = true := by
  intro u hu
  obtain ⟨e, _, he⟩ := List.mem_flatMap.1 hu
  simp only [entC4, List.mem_cons, List.not_mem_nil, or_false] at he
  rcases he with rfl | rfl | rfl | rfl <;> rfl
end Go.Proofs.Ytbicnkopmamnpaa
end
section

/- Flags of an entry, as bits. Condition: numbers of two bytes. -/
namespace Go.Proofs.Ytbicnkopmamnpaa
open Go.RowKit

theorem bits_and (v m : Nat) (hv : v ≤ 65535) (hm : m ≤ 65535) : bits .and .i64 (v : Int) (m : Int) = ((v &&& m : Nat) : Int) := by
  have e : (BitVec.ofInt 64 (v : Int)).toNat = v := by rw [BitVec.toNat_ofInt]; omega
  have e2 : (BitVec.ofInt 64 (m : Int)).toNat = m := by rw [BitVec.toNat_ofInt]; omega
  have h : v &&& m ≤ v := Nat.and_le_left
  simp only [bits, BitVec.toNat_and]
  show IntKind.wrap .i64 (((BitVec.ofInt 64 (v : Int)).toNat &&& (BitVec.ofInt 64 (m : Int)).toNat : Nat) : Int) = _
  rw [e, e2, IntKind.wrap_i64]
  omega
theorem nat_and_pow (v k : Nat) : v &&& 2 ^ k = if v / 2 ^ k % 2 = 1 then 2 ^ k else 0 := by
  apply Nat.eq_of_testBit_eq
  intro i
  rw [Nat.testBit_and, Nat.testBit_two_pow]
  by_cases hi : k = i
  · subst hi
    by_cases hb : v / 2 ^ k % 2 = 1
    · rw [if_pos hb, Nat.testBit_two_pow, Nat.testBit_eq_decide_div_mod_eq, hb]; simp
    · rw [if_neg hb, Nat.testBit_eq_decide_div_mod_eq]; simp [hb]
  · split
    · rw [Nat.testBit_two_pow]; simp [hi]
    · simp [hi]
theorem flag_yes (v k : Nat) (hv : v ≤ 65535) (hk : 2 ^ k ≤ 65535) (z : Int) (hz : z = ((2 ^ k : Nat) : Int)) (h : v / 2 ^ k % 2 = 1) : bits .and .i64 (v : Int) z = z := by
  subst hz
  rw [bits_and _ _ hv hk, nat_and_pow, if_pos h]
theorem flag_no (v k : Nat) (hv : v ≤ 65535) (hk : 2 ^ k ≤ 65535) (z : Int) (hz : z = ((2 ^ k : Nat) : Int)) (h : ¬ v / 2 ^ k % 2 = 1) : bits .and .i64 (v : Int) z = 0 := by
  subst hz
  rw [bits_and _ _ hv hk, nat_and_pow, if_neg h]
  rfl
end Go.Proofs.Ytbicnkopmamnpaa
end
section

/- A machine on its way along a line, as a function; drive's classAt at any place. Conditions: a machine and a line in memory; sizes. -/
namespace Go.Proofs.Ytbicnkopmamnpaa
open Go.RowKit Go.Lib

/-- An entry: its next state, flags, and two words. -/
abbrev Ent := Nat × Nat × Nat × Nat
def entX (vb : List UInt8) (k j : Nat) : Ent := (num vb (j * (4 + 2 * k)) 2, num vb (j * (4 + 2 * k) + 2) 2, if 0 < k then num vb (j * (4 + 2 * k) + 4) 2 else 0, if 1 < k then num vb (j * (4 + 2 * k) + 6) 2 else 0)
def entV4 (e : Ent) : Value := .agg #[.int .i64 (e.1 : Nat), .int .i64 (e.2.1 : Nat), .int .i64 (e.2.2.1 : Nat), .int .i64 (e.2.2.2 : Nat)]
theorem entX_le (vb : List UInt8) (k j : Nat) : (entX vb k j).1 ≤ 65535 ∧ (entX vb k j).2.1 ≤ 65535 ∧ (entX vb k j).2.2.1 ≤ 65535 ∧ (entX vb k j).2.2.2 ≤ 65535 := by
  unfold entX
  refine ⟨num2_lt _ _, num2_lt _ _, ?_, ?_⟩
  · dsimp only; split
    · exact num2_lt _ _
    · omega
  · dsimp only; split
    · exact num2_lt _ _
    · omega
/-- The entry of a state and a class. -/
def enM (bs : List UInt8) (k s c : Nat) : Ent := entX (bs.drop (num bs 12 4)) k (entN bs (s * num bs 0 4 + c))
/-- The class of a line's place, or of its end. -/
def clD (bs : List UInt8) (rs : List RP) (l : List (Int × Int)) (z : Nat) : Nat := match l[z]? with
  | some p => classM bs rs p.1
  | none => 0
theorem classM_less (bs : List UInt8) (rs : List RP) (id : Int) (h : 4 ≤ num bs 0 4) : classM bs rs id < num bs 0 4 := by
  unfold classM
  split
  · omega
  · simp only
    split
    · rename_i h2; exact h2.2
    · omega
theorem clD_lt (bs : List UInt8) (rs : List RP) (l : List (Int × Int)) (z : Nat) (h : 4 ≤ num bs 0 4) : clD bs rs l z < num bs 0 4 := by
  unfold clD
  split
  · exact classM_less _ _ _ h
  · omega
theorem enM_next (bs : List UInt8) (k : Nat) {glyphs : Nat} {rs : List RP} {S s c : Nat} (hok : MOk bs glyphs k rs S) (hs : s < S) (hc : c < num bs 0 4) : (enM bs k s c).1 < S := by
  have h1 : entN bs (s * num bs 0 4 + c) < needE bs S := ent_in hs hc
  have h2 : nextN bs k (entN bs (s * num bs 0 4 + c)) < needS bs k (needE bs S) := needL_lt h1
  have h3 := hok.least.closed.2
  have h4 : (enM bs k s c).1 = nextN bs k (entN bs (s * num bs 0 4 + c)) := by
    unfold enM entX nextN
    rw [num_dropS]
  omega
/-- A machine goes along a line: what becomes of it, how many steps, and the error. -/
def runD {X : Type} (cl : X → Nat → Nat) (en : Nat → Nat → Ent) (fin : X → Nat → Bool) (act : X → Nat → Ent → X × Int × Int) : Nat → X → Nat → Nat → Nat → Nat → X × Nat × Nat
  | 0, x, _, _, _, st => (x, st - 1, 4)
  | fu + 1, x, now, z, re, st =>
    let e := en now (cl x z)
    let r := act x z e
    if e.2.1 / 2 ^ 14 % 2 = 1 then (if 64 < re + 1 then (r.1, st, 4) else runD cl en fin act fu r.1 e.1 (max r.2.1 0).toNat (re + 1) (st + 1))
    else if fin x z then (r.1, st, 0) else runD cl en fin act fu r.1 e.1 (max r.2.2 0).toNat 0 (st + 1)
/-- What holds of a line at first, and stays at each step, holds of what becomes of it. -/
theorem runD_keeps {X : Type} (P : X → Prop) {cl : X → Nat → Nat} {en : Nat → Nat → Ent} {fin : X → Nat → Bool} {act : X → Nat → Ent → X × Int × Int} (hs : ∀ x z e, P x → P (act x z e).1) : ∀ fu x now z re st, P x → P (runD cl en fin act fu x now z re st).1 := by
  intro fu
  induction fu with
  | zero => intro x now z re st h; exact h
  | succ fu ih =>
    intro x now z re st h
    unfold runD
    dsimp only
    split
    · split
      · exact hs _ _ _ h
      · exact ih _ _ _ _ _ (hs _ _ _ h)
    · split
      · exact hs _ _ _ h
      · exact ih _ _ _ _ _ (hs _ _ _ h)
set_option maxRecDepth 100000 in
set_option maxHeartbeats 1600000 in
theorem classAt_z (B g : Nat) (bs : List UInt8) (k : Nat) (rs : List RP) (S : Nat) (Bl gl : Nat) (a : Option Addr) (c : Nat) (l : List (Int × Int)) (z : Nat) (hz : z ≤ 1000000000) (w : World) (h : MIs B g bs k rs S w) (hf : FitL (tabR (bs.drop (num bs 4 4)) rs).1 (tabR (bs.drop (num bs 4 4)) rs).2) (hG : GIs Bl gl a c l w) (hid : ∀ p ∈ l, -9223372036854775808 ≤ p.1 ∧ p.1 ≤ 9223372036854775807) :
    Calls Try.prog 118 #[.pointer (some ⟨g, 0, none⟩), .pointer (some ⟨gl, 0, none⟩), .int .i64 (z : Nat)] w fun e w' => e = .returned (.tuple #[.int .i64 (clD bs rs l z : Nat), .bool (decide (z < l.length))]) ∧ Below w.heap.size w w' := by
  have hAC := allocC
  have hAF := allocF
  have HAt := Lib.hid (gat_any Bl gl a c l w hG (z : Nat))
  have HM := Lib.hid h
  have HF := Lib.hid hf
  cases hl : l[z]? with
  | none =>
    have hin : inG l (z : Nat) = false := by
      have := List.getElem?_eq_none_iff.1 hl
      unfold inG
      simp
      omega
    rw [show clD bs rs l z = 0 by rw [clD, hl], show decide (z < l.length) = false by have := List.getElem?_eq_none_iff.1 hl; simp; omega]
    rw [hin, show atG l (z : Nat) = (0, 0) by rw [atG, if_neg (by rw [hin]; decide)]] at HAt
    simp only [glyphA] at HAt
    clear hl hin h hG hid hf
    go_enter Try.func118, Try.ntmps118
    go_wp2_with (go_at_call 84; (with_reducible refine HAt.out.mono ?_); rintro e w1 ⟨rfl, hb1⟩)
    go_ret2
    exact ⟨rfl, blw⟩
  | some p =>
    have hin : inG l (z : Nat) = true := inG_of hl
    have hat : atG l (z : Nat) = p := atG_of hl
    have hp := hid p (List.mem_of_getElem? hl)
    rw [show clD bs rs l z = classM bs rs p.1 by rw [clD, hl], show decide (z < l.length) = true by have := (List.getElem?_eq_some_iff.1 hl).1; simp; omega]
    rw [hin, hat] at HAt
    obtain ⟨p1, p2⟩ := p
    simp only [glyphA] at HAt hp
    have HC := Lib.hid (fun W (hW : Below w.heap.size w W) => class_any B g bs k rs S p1 W (HM.out.below hW) HF.out hp)
    clear hl hin hat h hG hid hf hp
    generalize classM bs rs p1 = C at *
    go_enter Try.func118, Try.ntmps118
    go_wp2_with (first | (go_at_call 84; (with_reducible refine HAt.out.mono ?_); rintro e w1 ⟨rfl, hb1⟩; have h1c := bc hb1; have h1f := bf hb1; have h1z := hb1.size) | (go_at_call 156; (with_reducible refine (HC.out _ (by exact blw)).mono ?_); rintro e w2 ⟨rfl, hb2⟩))
    go_ret2
    exact ⟨rfl, blw⟩
end Go.Proofs.Ytbicnkopmamnpaa
end
section

/- Lookups of a subtable that changes glyphs by what stands around them, as the document has them, and what its swap does. Conditions: the lookups in memory; sizes. -/
namespace Go.Proofs.Ytbicnkopmamnpaa
open Go.RowKit Go.Lib

end Go.Proofs.Ytbicnkopmamnpaa
end
section

/- Such a subtable of layer 15, as its bytes tell it. No condition. -/
namespace Go.Proofs.Ytbicnkopmamnpaa
open Go.RowKit Go.Lib

def entW (bs : List UInt8) (j : Nat) : Ent := entX (bs.drop (num bs 12 4)) 2 j
/-- The number of four bytes at a place, or -1. -/
def qAt (bs : List UInt8) (k : Nat) : Int := if k + 4 ≤ bs.length then (num bs k 4 : Nat) else -1
theorem qAt_any (a : Option Addr) (n c : Nat) (bs : List UInt8) (k : Nat) (z : Int) (hz : z = (k : Nat)) (w : World) (h : Has w a (bytesV bs)) (hl : bs.length = n) (hn : n ≤ maxLen) (hk : k ≤ 1000000000000) :
    Calls Try.prog 70 #[.slice a n c, .int .i64 z, .int .i64 4] w fun e w' => e = .returned (.int .i64 (qAt bs k)) ∧ w = w' := by
  subst hz
  unfold qAt
  split
  · rename_i hin
    exact u_in a n c k 4 bs w h hl (by omega) (by omega) hn
  · rename_i hin
    exact u_out a n c 4 (k : Int) w (by omega) (by omega) (by omega) hn
theorem qAt_bound (bs : List UInt8) (k : Nat) : -1 ≤ qAt bs k ∧ qAt bs k ≤ 4294967295 := by
  unfold qAt
  have := num4_lt bs k
  split <;> omega
end Go.Proofs.Ytbicnkopmamnpaa
end
section

/- The document's Read of layer 15. Conditions: bytes as the slice says; sizes. -/
namespace Go.Proofs.Ytbicnkopmamnpaa
open Go.RowKit Go.Lib

theorem heap10_at {W : World} {g : Nat} {x0 x1 x2 x3 x4 x5 x6 x7 x8 x9 : Value} {t : TypeId} (h : W.heap[g]? = some (.cells #[x0, x1, x2, x3, x4, x5, x6, x7, x8, x9] t (0, 0))) (v0 v1 v2 v3 v4 v5 v6 v7 v8 v9 : Value) :
    ((((((((((W.setCell ⟨g, 0, none⟩ v0).setCell ⟨g, 1, none⟩ v1).setCell ⟨g, 2, none⟩ v2).setCell ⟨g, 3, none⟩ v3).setCell ⟨g, 4, none⟩ v4).setCell ⟨g, 5, none⟩ v5).setCell ⟨g, 6, none⟩ v6).setCell ⟨g, 7, none⟩ v7).setCell ⟨g, 8, none⟩ v8).setCell ⟨g, 9, none⟩ v9).heap[g]? = some (.cells #[v0, v1, v2, v3, v4, v5, v6, v7, v8, v9] t (0, 0)) := by
  have h := set_heap_at (o := 0) v0 h
  have h := set_heap_at (o := 1) v1 h
  have h := set_heap_at (o := 2) v2 h
  have h := set_heap_at (o := 3) v3 h
  have h := set_heap_at (o := 4) v4 h
  have h := set_heap_at (o := 5) v5 h
  have h := set_heap_at (o := 6) v6 h
  have h := set_heap_at (o := 7) v7 h
  have h := set_heap_at (o := 8) v8 h
  have h := set_heap_at (o := 9) v9 h
  simpa using h
theorem below10 {B : Nat} {w W : World} (h : Below B w W) {g : Nat} (hg : B ≤ g) (v0 v1 v2 v3 v4 v5 v6 v7 v8 v9 : Value) :
    Below B w ((((((((((W.setCell ⟨g, 0, none⟩ v0).setCell ⟨g, 1, none⟩ v1).setCell ⟨g, 2, none⟩ v2).setCell ⟨g, 3, none⟩ v3).setCell ⟨g, 4, none⟩ v4).setCell ⟨g, 5, none⟩ v5).setCell ⟨g, 6, none⟩ v6).setCell ⟨g, 7, none⟩ v7).setCell ⟨g, 8, none⟩ v8).setCell ⟨g, 9, none⟩ v9) := by
  exact ((((((((((h.setCell (p := ⟨g, 0, none⟩) hg v0).setCell (p := ⟨g, 1, none⟩) hg v1).setCell (p := ⟨g, 2, none⟩) hg v2).setCell (p := ⟨g, 3, none⟩) hg v3).setCell (p := ⟨g, 4, none⟩) hg v4).setCell (p := ⟨g, 5, none⟩) hg v5).setCell (p := ⟨g, 6, none⟩) hg v6).setCell (p := ⟨g, 7, none⟩) hg v7).setCell (p := ⟨g, 8, none⟩) hg v8).setCell (p := ⟨g, 9, none⟩) hg v9)
end Go.Proofs.Ytbicnkopmamnpaa
end
section

/- Laws for a struct of some cells: loaded, stored, made anew, in one step each. Conditions: the block is known whole. -/
namespace Go.Proofs.Ytbicnkopmamnpaa
open Go.RowKit Go.Lib

theorem wpOpVK {P : Program} {w : World} {ops : Array Oper} {rest : List Oper} {o : Oper} {a : Act} {Q : Exit → Act → World → Prop} (hgd : o.guard = none) (v : Value) (w' : World) (hr : (execOp a.eval o).run P w = .ok (.value v) w') (h : wpList P ops Q rest (a.put o.dst v) w') : wpList P ops Q (o :: rest) a w :=
  wpList_plain hgd fun K hK => by
    show o.upon P a K Q ((execOp a.eval o).run P w)
    rw [hr]
    exact hK _ _ h
theorem wpOpUK {P : Program} {w : World} {ops : Array Oper} {rest : List Oper} {o : Oper} {a : Act} {Q : Exit → Act → World → Prop} (hgd : o.guard = none) (w' : World) (hr : (execOp a.eval o).run P w = .ok .skip w') (h : wpList P ops Q rest (a.put o.dst undef) w') : wpList P ops Q (o :: rest) a w :=
  wpList_plain hgd fun K hK => by
    show o.upon P a K Q ((execOp a.eval o).run P w)
    rw [hr]
    exact hK _ _ h
theorem wpAllocK {P : Program} {w : World} {ops : Array Oper} {rest : List Oper} {o : Oper} {a : Act} {Q : Exit → Act → World → Prop} (hgd : o.guard = none) (t : TypeId) (ho : o.op = .alloc t) (zs : Array Value) (hz : ∀ w, (Instr.alloc t true (.tuple #[])).run P w = .ok (.pointer (some ⟨w.heap.size, 0, none⟩)) (w.alloc (.cells zs t)))
    (h : wpList P ops Q rest (a.put o.dst (.pointer (some ⟨w.heap.size, 0, none⟩))) (w.alloc (.cells zs t))) : wpList P ops Q (o :: rest) a w :=
  wpOpVK hgd (.pointer (some ⟨w.heap.size, 0, none⟩)) (w.alloc (.cells zs t)) (by unfold execOp; rw [ho]; simp only [Sem.run_bind, Sem.run_pure, Sem.run_map, hz, Result.andThen]) h
theorem wpStoreK {P : Program} {w : World} {ops : Array Oper} {rest : List Oper} {o : Oper} {a : Act} {Q : Exit → Act → World → Prop} (hgd : o.guard = none) (t : TypeId) (p x : Operand) (ho : o.op = .store t p x) (g : Nat) (c c' : Array Value) (hp : a.eval p = .pointer (some ⟨g, 0, none⟩)) (hx : a.eval x = .agg c') (hg : w.heap[g]? = some (.cells c t (0, 0)))
    (hi : (P.info? t).map (·.size) = some c'.size) (hs : c.size = c'.size) (h1 : c'.all (·.oneCell') = true)
    (h : ∀ w', w'.heap[g]? = some (.cells c' t (0, 0)) → (∀ k, k ≠ g → w'.heap[k]? = w.heap[k]?) → w'.heap.size = w.heap.size → Below g w w' → wpList P ops Q rest (a.put o.dst undef) w') : wpList P ops Q (o :: rest) a w :=
  wpOpUK hgd (w.setRow g c') (by unfold execOp; rw [ho]; simp only [hp, hx, Instr.storeAt, Instr.sureAddr, Sem.run_bind, Sem.run_pure, Sem.run_map, Result.andThen, run_storeVar_row w g t t c c' hg hi hs h1]) (h _ (setRow_heap w g c _ t _ hg) (fun k hk => setRow_other w g k _ hk) (by simp [World.setRow]) (below_setRow (Below.refl _ _) (Nat.le_refl _) _))
end Go.Proofs.Ytbicnkopmamnpaa
end
section

/- The document's Read of layer 15: of bytes that begin with a machine. Conditions: bytes as the slice says; sizes. -/
namespace Go.Proofs.Ytbicnkopmamnpaa
open Go.RowKit Go.Lib

end Go.Proofs.Ytbicnkopmamnpaa
end
section

/- A map of lookups by where they stand, and a row of them. Conditions: as each says. -/
namespace Go.Proofs.Ytbicnkopmamnpaa
open Go.RowKit Go.Lib

end Go.Proofs.Ytbicnkopmamnpaa
end
section

/- ctx.take: so many lookups whose places stand in a list. Conditions: as many bytes as the slice says; sizes. -/
namespace Go.Proofs.Ytbicnkopmamnpaa
open Go.RowKit Go.Lib

end Go.Proofs.Ytbicnkopmamnpaa
end
section

/- ctx.asked: how many lookups some entries ask for. Conditions: entries as their bytes tell them. -/
namespace Go.Proofs.Ytbicnkopmamnpaa
open Go.RowKit Go.Lib

theorem ent_at {w : World} {a : Option Addr} {vb : List UInt8} {k n : Nat} (h : Has w a (entsV vb k n)) {j : Nat} (hj : j < n) : ∃ g o, a = some ⟨g, o, none⟩ ∧ g < w.heap.size ∧
    w.cell? ⟨g, o + j * 4, none⟩ = some (.int .i64 ((entX vb k j).1 : Nat)) ∧ w.cell? ⟨g, o + j * 4 + 1, none⟩ = some (.int .i64 ((entX vb k j).2.1 : Nat)) ∧ w.cell? ⟨g, o + j * 4 + 2, none⟩ = some (.int .i64 ((entX vb k j).2.2.1 : Nat)) ∧ w.cell? ⟨g, o + j * 4 + 3, none⟩ = some (.int .i64 ((entX vb k j).2.2.2 : Nat)) := by
  have hlen : 0 < (entsV vb k n).length := by
    have := entsV_get vb k n j 0 hj (by omega)
    rcases Nat.eq_zero_or_pos (entsV vb k n).length with h0 | h0
    · rw [List.getElem?_eq_none (by omega)] at this
      simp [entV] at this
    · exact h0
  obtain ⟨g, o, ha, hg, hx⟩ := h.get hlen
  have e0 : (entsV vb k n)[j * 4]? = some (.int .i64 ((entX vb k j).1 : Nat)) := by have := entsV_get vb k n j 0 hj (by omega); rw [Nat.add_zero] at this; exact this
  have e1 : (entsV vb k n)[j * 4 + 1]? = some (.int .i64 ((entX vb k j).2.1 : Nat)) := entsV_get vb k n j 1 hj (by omega)
  have e2 : (entsV vb k n)[j * 4 + 2]? = some (.int .i64 ((entX vb k j).2.2.1 : Nat)) := entsV_get vb k n j 2 hj (by omega)
  have e3 : (entsV vb k n)[j * 4 + 3]? = some (.int .i64 ((entX vb k j).2.2.2 : Nat)) := entsV_get vb k n j 3 hj (by omega)
  exact ⟨g, o, ha, hg, hx _ _ e0, by rw [Nat.add_assoc]; exact hx _ _ e1, by rw [Nat.add_assoc]; exact hx _ _ e2, by rw [Nat.add_assoc]; exact hx _ _ e3⟩
end Go.Proofs.Ytbicnkopmamnpaa
end
section

/- ctx.Take: such a subtable that a View begins with, or it throws. Conditions: as many bytes as the slice says. -/
namespace Go.Proofs.Ytbicnkopmamnpaa
open Go.RowKit Go.Lib

end Go.Proofs.Ytbicnkopmamnpaa
end
section

/- The document's Begin, Next and Go: where a machine is on its way. Conditions: a machine in memory; sizes. -/
namespace Go.Proofs.Ytbicnkopmamnpaa
open Go.RowKit Go.Lib

end Go.Proofs.Ytbicnkopmamnpaa
end
section

/- The document's way of a machine, told of the machine along a line as a function; seven stores into one block. No condition. -/
namespace Go.Proofs.Ytbicnkopmamnpaa
open Go.RowKit Go.Lib

end Go.Proofs.Ytbicnkopmamnpaa
end
section

/- The document's Run of layer 15. Conditions: a machine and lookups in memory; sizes. -/
namespace Go.Proofs.Ytbicnkopmamnpaa
open Go.RowKit Go.Lib

def IdsOk (l : List (Int × Int)) : Prop := ∀ p ∈ l, -9223372036854775808 ≤ p.1 ∧ p.1 ≤ 9223372036854775807
end Go.Proofs.Ytbicnkopmamnpaa
end
section

/- drive.Run, with an act made by Plain: a machine goes along a line, whatever the act does by its own contract. Conditions: a machine and a line in memory; the act keeps the machine, and what else is known; sizes. -/
namespace Go.Proofs.Ytbicnkopmamnpaa
open Go.RowKit Go.Lib

theorem fn_nilA (fn : Fn) (first cap : Array Value) (w : World) : (binOp .eql 159 (.func fn first cap) .nilFunc).run Try.prog w = .ok (.bool false) w := by kernel_rfl
end Go.Proofs.Ytbicnkopmamnpaa
end
section

/- ctx.Run: what a subtable that changes glyphs by what stands around them does to a line. Conditions: a subtable and a line in memory; sizes. -/
namespace Go.Proofs.Ytbicnkopmamnpaa
open Go.RowKit Go.Lib

end Go.Proofs.Ytbicnkopmamnpaa
end
section

/- ctx.Read: such a subtable that bytes begin with. Conditions: as many bytes as the slice says; glyphs as an int. -/
namespace Go.Proofs.Ytbicnkopmamnpaa
open Go.RowKit Go.Lib

end Go.Proofs.Ytbicnkopmamnpaa
end
section

/- What law 15 asks first: a mark, and a change there. No condition. -/
namespace Go.Proofs.Ytbicnkopmamnpaa
open Go.RowKit Go.Lib

theorem newG_idsC {ids : List Int} (h : ∀ z ∈ ids, -9223372036854775808 ≤ z ∧ z ≤ 9223372036854775807) : IdsOk (newG ids) := by
  intro p hp
  obtain ⟨k, hk⟩ := List.mem_iff_getElem?.1 hp
  rw [newG_get] at hk
  cases hz : ids[k]? with
  | none => rw [hz] at hk; cases hk
  | some z =>
    rw [hz] at hk
    cases hk
    exact h z (List.mem_of_getElem? hz)
end Go.Proofs.Ytbicnkopmamnpaa
end
section

/- The document's subtable of layer 15 beside the code's: what both read of bytes, and what their lookups give; clusters stay. Conditions: as each says. -/
namespace Go.Proofs.Ytbicnkopmamnpaa
open Go.RowKit Go.Lib


end Go.Proofs.Ytbicnkopmamnpaa
end
section

/- A subtable of layer 15 whose entries name no lookup, or whose lookups have no glyph: its bytes, and that it changes no line. Conditions: a plan of a machine; the bytes' places below 65536. No walk. -/
namespace Go.Proofs.Ytbicnkopmamnpaa
open Go.RowKit Go.Lib

theorem num_splice (L D : List UInt8) (o k s : Nat) (ho : o + D.length ≤ L.length) (h : k + s ≤ o ∨ o + D.length ≤ k) : num (splice L o D) k s = num L k s := by
  have hs : splice L o D = L.take o ++ D ++ L.drop (o + D.length) := by simp only [splice, List.append_assoc]
  rcases h with h | h
  · rw [hs, List.append_assoc, numL _ _ _ _ (by rw [List.length_take]; omega)]
    exact num_takeS L o k s h
  · obtain ⟨j, rfl⟩ : ∃ j, k = o + D.length + j := ⟨k - (o + D.length), by omega⟩
    rw [hs, numR _ _ _ j _ (by rw [List.length_append, List.length_take]; omega), num_dropS]
theorem entPB_A (e : Int × Int × Int × Int) (Z : List UInt8) : num (entPB 2 e ++ Z) 4 2 = m16 e.2.2.1 ∧ num (entPB 2 e ++ Z) 6 2 = m16 e.2.2.2 := by
  unfold entPB
  rw [if_pos (by decide), if_pos (by decide)]
  simp only [List.append_assoc]
  refine ⟨?_, ?_⟩
  · rw [numR _ _ 4 2 2 (by rw [beN_length]), numR _ _ 2 0 2 (by rw [beN_length]), numB2 _ _ (m16_lt _)]
  · rw [numR _ _ 6 4 2 (by rw [beN_length]), numR _ _ 4 2 2 (by rw [beN_length]), numR _ _ 2 0 2 (by rw [beN_length]), numB2 _ _ (m16_lt _)]
theorem entsPB_A : ∀ (l : List (Int × Int × Int × Int)) (j : Nat) (e : Int × Int × Int × Int), l[j]? = some e → num (entsPB 2 l) (j * 8 + 4) 2 = m16 e.2.2.1 ∧ num (entsPB 2 l) (j * 8 + 6) 2 = m16 e.2.2.2
  | [], j, e, h => by simp at h
  | x :: l, 0, e, h => by
    simp at h
    subst h
    rw [Nat.zero_mul, Nat.zero_add, show entsPB 2 (x :: l) = entPB 2 x ++ entsPB 2 l from rfl]
    exact entPB_A x _
  | x :: l, j + 1, e, h => by
    have hl : (entPB 2 x).length = 8 := entPB_length 2 x (by decide)
    rw [show entsPB 2 (x :: l) = entPB 2 x ++ entsPB 2 l from rfl, numR _ _ ((j + 1) * 8 + 4) (j * 8 + 4) _ (by omega), numR _ _ ((j + 1) * 8 + 6) (j * 8 + 6) _ (by omega)]
    exact entsPB_A l j e (by simpa using h)
/-- Which entries name no lookup. -/
def idleC (which : Bool) (e : Int × Int × Int × Int) : Int × Int × Int × Int := if which then (e.1, e.2.1, 65535, 65535) else e
def PlanL.idleC (p : PlanL) (which : Bool) : PlanL := ⟨p.cls, p.rows, p.ents.map (Go.Proofs.Ytbicnkopmamnpaa.idleC which), p.wide⟩
/-- The first j of a list changed. -/
def mapL {α : Type} (f : α → α) (l : List α) (j : Nat) : List α := (l.take j).map f ++ l.drop j
theorem mapL_zero {α : Type} (f : α → α) (l : List α) : mapL f l 0 = l := by simp [mapL]
theorem mapL_all {α : Type} (f : α → α) (l : List α) : mapL f l l.length = l.map f := by simp [mapL]
theorem mapL_get {α : Type} (f : α → α) (l : List α) (j : Nat) : (mapL f l j)[j]? = l[j]? := by
  by_cases h : j ≤ l.length
  · rw [mapL, List.getElem?_append_right (by simp [List.length_take]; omega)]
    simp [List.length_take, Nat.min_eq_left h]
  · rw [List.getElem?_eq_none (by simp [mapL, List.length_take, List.length_drop]; omega), List.getElem?_eq_none (by omega)]
theorem mapL_set {α : Type} (f : α → α) (l : List α) (j : Nat) (e : α) (h : l[j]? = some e) : (mapL f l j).set j (f e) = mapL f l (j + 1) := by
  have hlt := (List.getElem?_eq_some_iff.1 h).1
  have hge := (List.getElem?_eq_some_iff.1 h).2
  rw [mapL, mapL, List.take_add_one, h, List.set_append, if_neg (by simp [List.length_take]; omega)]
  rw [List.drop_eq_getElem_cons hlt, hge]
  simp [List.length_take, Nat.min_eq_left (Nat.le_of_lt hlt)]
theorem entC4_set23 : ∀ (l : List (Int × Int × Int × Int)) (j : Nat) (z y : Int) (e : Int × Int × Int × Int), l[j]? = some e → ((l.flatMap entC4).set (j * 4 + 2) (.int .i64 z)).set (j * 4 + 3) (.int .i64 y) = (l.set j (e.1, e.2.1, z, y)).flatMap entC4
  | [], j, z, y, e, h => by simp at h
  | x :: l, 0, z, y, e, h => by simp at h; subst h; rfl
  | x :: l, j + 1, z, y, e, h => by
    have h2 : (j + 1) * 4 + 2 - (entC4 x).length = j * 4 + 2 := by simp [entC4]; omega
    have h3 : (j + 1) * 4 + 3 - (entC4 x).length = j * 4 + 3 := by simp [entC4]; omega
    have h4 : (entC4 x).length = 4 := rfl
    rw [List.flatMap_cons, List.set_append_right _ _ (by omega), h2, List.set_append_right _ _ (by omega), h3, entC4_set23 l j z y e (by simpa using h), List.set_cons_succ, List.flatMap_cons]
theorem idleC_wf (which : Bool) (l : List (Int × Int × Int × Int)) (h : ∀ e ∈ l, wfI e.1 ∧ wfI e.2.1 ∧ wfI e.2.2.1 ∧ wfI e.2.2.2) : ∀ e ∈ l.map (idleC which), wfI e.1 ∧ wfI e.2.1 ∧ wfI e.2.2.1 ∧ wfI e.2.2.2 := by
  intro e he
  obtain ⟨x, hx, rfl⟩ := List.mem_map.1 he
  obtain ⟨h1, h2, h3, h4⟩ := h x hx
  unfold idleC
  split
  · exact ⟨h1, h2, by unfold wfI; dsimp only; omega, by unfold wfI; dsimp only; omega⟩
  · exact ⟨h1, h2, h3, h4⟩
end Go.Proofs.Ytbicnkopmamnpaa
end
section

/- The bytes of subtables of layers 17 and 18, as their laws write them: where the lists stand, what is in them, the entries. No walk. Conditions: the bytes' places below 65536. -/
namespace Go.Proofs.Ytbicnkopmamnpaa
open Go.RowKit Go.Lib

/-- A subtable of layer 18. -/
def insB (p : PlanL) (list : List Nat) : List UInt8 := splice (planB p 2 4) 16 (beN 4 (planB p 2 4).length) ++ vals16 list
section
variable {p : PlanL}
theorem planL2 : (planB p 2 4).length = 26 + 2 * p.cls.length + 2 * (p.rows.length * p.n) + p.ents.length * 8 := by
  have := planB_length p 2 4 (by decide)
  omega
theorem insB_length (list : List Nat) : (insB p list).length = (planB p 2 4).length + 2 * list.length := by
  have hl := planL2 (p := p)
  unfold insB
  rw [List.length_append, length_splice _ _ _ (by rw [beN_length]; omega), vals16_length]
theorem insB_num (list : List Nat) (k s : Nat) (hk : k + s ≤ 16 ∨ 20 ≤ k) (h : k + s ≤ (planB p 2 4).length) : num (insB p list) k s = num (planB p 2 4) k s := by
  have hl := planL2 (p := p)
  unfold insB
  rw [numL _ _ _ _ (by rw [length_splice _ _ _ (by rw [beN_length]; omega)]; exact h), num_splice _ _ _ _ _ (by rw [beN_length]; omega) (by rw [beN_length]; omega)]
end
/-- The entries' numbers. -/
theorem plan_at (p : PlanL) (k room : Nat) (i : Nat) : num (planB p k room) (22 + room + 2 * p.cls.length + 2 * (p.rows.length * p.n) + i) 2 = num (entsPB k p.ents) i 2 := by
  unfold planB
  rw [numR _ _ _ i _ (by simp only [ofB, List.length_append, beN_length, List.length_replicate, clsB_length, rowsPB_length]; omega)]
theorem insB_entA (p : PlanL) (list : List Nat) (h : 26 + 2 * p.cls.length + 2 * (p.rows.length * p.n) ≤ 65535) (j : Nat) (e : Int × Int × Int × Int) (he : p.ents[j]? = some e) : (entX ((insB p list).drop (num (insB p list) 12 4)) 2 j).2.2.1 = m16 e.2.2.1 ∧ (entX ((insB p list).drop (num (insB p list) 12 4)) 2 j).2.2.2 = m16 e.2.2.2 := by
  have hlen := planL2 (p := p)
  have hj : j < p.ents.length := (List.getElem?_eq_some_iff.1 he).1
  have h12 : num (insB p list) 12 4 = 22 + 4 + 2 * p.cls.length + 2 * (p.rows.length * p.n) := by
    rw [insB_num list 12 4 (by omega) (by omega), plan_ents p 2 4 (by omega)]
  obtain ⟨k1, k2⟩ := entsPB_A p.ents j e he
  rw [← k1, ← k2]
  unfold entX
  rw [h12]
  simp only [num_dropS]
  rw [if_pos (by decide), if_pos (by decide), insB_num list _ _ (by omega) (by omega), insB_num list _ _ (by omega) (by omega), plan_at, plan_at]
  exact ⟨rfl, rfl⟩
end Go.Proofs.Ytbicnkopmamnpaa
end
section

/- What a subtable of layer 17 does to a line, as lists: places that are kept, actions, glyphs that become one. No walk, no condition: places that are kept are places of the line; clusters grow no greater than their place; without Perform, or without Push, the line stays. -/
namespace Go.Proofs.Ytbicnkopmamnpaa
open Go.RowKit Go.Lib

end Go.Proofs.Ytbicnkopmamnpaa
end
section

/- Layer 17: of however many glyphs that are kept one behind the other, no more than sixty-four become one. No walk; what the bytes tell of the machine and its lists is laid down as it is asked for. -/
namespace Go.Proofs.Ytbicnkopmamnpaa
open Go.RowKit Go.Lib

end Go.Proofs.Ytbicnkopmamnpaa
end
section

/- What a subtable of layer 18 does to a line, as lists: what is put, where the mark and the step's own glyph come to stand, how many are left. No walk: the line's own glyphs stay, in their order; as many more as it says, and no more than may be; with just as many left it is the same, with fewer it runs out; without lists it stays. -/
namespace Go.Proofs.Ytbicnkopmamnpaa
open Go.RowKit Go.Lib

/-- A line, the mark, how many are put, and whether there were too few left. -/
abbrev IX := List (Int × Int) × Int × Nat × Bool
def hereI (e : Ent) : Nat := if e.2.2.1 = 65535 then 0 else e.2.1 / 32 % 32
def markI (e : Ent) : Nat := if e.2.2.2 = 65535 then 0 else e.2.1 % 32
def idsI (li : List UInt8) (k n : Nat) : List Int := (List.range n).map fun i => ((num li (2 * (k + i)) 2 : Nat) : Int)
/-- Behind what is put at the mark: the line, the place of the own glyph, and the mark. -/
def putM (li : List UInt8) (l : List (Int × Int)) (mark : Int) (z : Nat) (e : Ent) (mk : Nat) : List (Int × Int) × Nat × Int :=
  if mk = 0 then (l, z, mark)
  else if e.2.1 / 1024 % 2 = 1 then (insG l mark (idsI li e.2.2.2 mk), if (z : Int) < mark then z else z + mk, mark + mk)
  else (insG l (mark + 1) (idsI li e.2.2.2 mk), if mark < (z : Int) then z + mk else z, mark)
/-- Behind what is put at the place: the line, where its own glyph stands, and the mark. -/
def putH (li : List UInt8) (l : List (Int × Int)) (mark : Int) (i : Nat) (e : Ent) (hr : Nat) : List (Int × Int) × Nat × Int :=
  if hr = 0 then (l, i, mark)
  else if e.2.1 / 2048 % 2 = 1 then (insG l (i : Nat) (idsI li e.2.2.1 hr), i + hr, if (i : Int) ≤ mark then mark + hr else mark)
  else (insG l (min (i + 1) l.length : Nat) (idsI li e.2.2.1 hr), i, if (i : Int) < mark then mark + hr else mark)
def actI (li : List UInt8) (left : Nat) (x : IX) (z : Nat) (e : Ent) : IX × Int × Int :=
  if x.2.2.2 = true then (x, (z : Int), (z : Int) + 1) else
  let mk := if x.2.1 < 0 then 0 else markI e
  if 0 < mk ∧ left < x.2.2.1 + mk then ((x.1, x.2.1, x.2.2.1, true), (z : Int), (z : Int) + 1) else
  let m := putM li x.1 x.2.1 z e mk
  let hr := hereI e
  if 0 < hr ∧ left < x.2.2.1 + mk + hr then ((m.1, m.2.2, x.2.2.1 + mk, true), (m.2.1 : Int), (m.2.1 : Int) + 1) else
  let h := putH li m.1 m.2.2 m.2.1 e hr
  ((h.1, if 32768 ≤ e.2.1 ∧ m.2.1 < m.1.length then (h.2.1 : Int) else h.2.2, x.2.2.1 + mk + hr, false), (m.2.1 : Int), (m.2.1 : Int) + hr + 1)
def insD (bs : List UInt8) (rs : List RP) (li : List UInt8) (left : Nat) (l : List (Int × Int)) : IX × Nat × Nat := runD (fun x z => clD bs rs x.1 z) (enM bs 2) (fun x z => decide (x.1.length ≤ z)) (actI li left) (2 * l.length + 128) (l, -1, 0, false) 0 0 0 1

theorem idsI_length (li : List UInt8) (k n : Nat) : (idsI li k n).length = n := by simp [idsI]
theorem idsI_le (li : List UInt8) (k n : Nat) : ∀ y ∈ idsI li k n, 0 ≤ y ∧ y ≤ 65535 := by
  intro y hy
  obtain ⟨i, _, rfl⟩ := List.mem_map.1 hy
  have := num2_lt li (2 * (k + i))
  omega
theorem insG_len {l : List (Int × Int)} {z : Int} (ids : List Int) (h : 0 ≤ z ∧ z ≤ (l.length : Int)) : (insG l z ids).length = l.length + ids.length := by
  unfold insG
  rw [if_pos (by unfold okI; simp; exact h)]
  simp only [List.length_append, List.length_take, List.length_map, List.length_drop]
  omega
def MarkI (l : List (Int × Int)) (mark : Int) : Prop := -1 ≤ mark ∧ mark < (l.length : Int)
theorem putM_is {li : List UInt8} {l : List (Int × Int)} {mark : Int} {z : Nat} (e : Ent) {mk : Nat} (hm : MarkI l mark) (hz : z ≤ l.length) (h0 : mark < 0 → mk = 0) :
    (putM li l mark z e mk).1.length = l.length + mk ∧ MarkI (putM li l mark z e mk).1 (putM li l mark z e mk).2.2 ∧ (putM li l mark z e mk).2.1 ≤ (putM li l mark z e mk).1.length ∧ (z < l.length → (putM li l mark z e mk).2.1 < (putM li l mark z e mk).1.length) := by
  unfold MarkI at *
  unfold putM
  split
  · rename_i h
    subst h
    exact ⟨rfl, hm, hz, fun h => h⟩
  have hmk : 0 ≤ mark := by
    rcases Int.lt_or_le mark 0 with h | h
    · exact absurd (h0 h) ‹_›
    · exact h
  split
  · have hl := insG_len (z := mark) (l := l) (idsI li e.2.2.2 mk) ⟨hmk, by omega⟩
    rw [idsI_length] at hl
    dsimp only
    rw [hl]
    refine ⟨rfl, by omega, ?_, ?_⟩ <;> split <;> omega
  · have hl := insG_len (z := mark + 1) (l := l) (idsI li e.2.2.2 mk) ⟨by omega, by omega⟩
    rw [idsI_length] at hl
    dsimp only
    rw [hl]
    refine ⟨rfl, by omega, ?_, ?_⟩ <;> split <;> omega
theorem putH_is {li : List UInt8} {l : List (Int × Int)} {mark : Int} {i : Nat} (e : Ent) {hr : Nat} (hm : MarkI l mark) (hz : i ≤ l.length) :
    (putH li l mark i e hr).1.length = l.length + hr ∧ MarkI (putH li l mark i e hr).1 (putH li l mark i e hr).2.2 ∧ (i < l.length → (putH li l mark i e hr).2.1 < (putH li l mark i e hr).1.length) := by
  unfold MarkI at *
  unfold putH
  split
  · rename_i h
    subst h
    exact ⟨rfl, hm, fun h => h⟩
  split
  · have hl := insG_len (z := (i : Nat)) (l := l) (idsI li e.2.2.1 hr) ⟨by omega, by omega⟩
    rw [idsI_length] at hl
    dsimp only
    rw [hl]
    refine ⟨rfl, ?_, by omega⟩
    split <;> omega
  · have hl := insG_len (z := (min (i + 1) l.length : Nat)) (l := l) (idsI li e.2.2.1 hr) ⟨by omega, by omega⟩
    rw [idsI_length] at hl
    dsimp only
    rw [hl]
    refine ⟨rfl, ?_, by omega⟩
    split <;> omega
/-- What holds along a run: n glyphs at first. -/
structure InI (n left : Nat) (x : IX) (z : Nat) : Prop where
  len : x.1.length = n + x.2.2.1
  mark : MarkI x.1 x.2.1
  most : x.2.2.1 ≤ left
  at_ : z ≤ x.1.length
theorem actI_in {n left : Nat} (li : List UInt8) (x : IX) (z : Nat) (e : Ent) (h : InI n left x z) : InI n left (actI li left x z e).1 (max (actI li left x z e).2.1 0).toNat ∧ (z < x.1.length → InI n left (actI li left x z e).1 (max (actI li left x z e).2.2 0).toNat) := by
  obtain ⟨l, mark, done, over⟩ := x
  obtain ⟨h1, h2, h3, h4⟩ := h
  simp only at h1 h2 h3 h4
  unfold actI
  simp only
  split
  · exact ⟨⟨h1, h2, h3, by dsimp only; omega⟩, fun hz => ⟨h1, h2, h3, by dsimp only; omega⟩⟩
  obtain ⟨mk, hmk⟩ : ∃ mk, mk = if mark < 0 then 0 else markI e := ⟨_, rfl⟩
  have h0 : mark < 0 → mk = 0 := fun h => by rw [hmk, if_pos h]
  rw [← hmk]
  clear hmk
  split
  · exact ⟨⟨h1, h2, h3, by dsimp only; omega⟩, fun hz => ⟨h1, h2, h3, by dsimp only; omega⟩⟩
  rename_i hb
  obtain ⟨p1, p2, p3, p4⟩ := putM_is (li := li) e h2 h4 h0
  generalize putM li l mark z e mk = m at *
  obtain ⟨l1, i, mark1⟩ := m
  simp only at p1 p2 p3 p4 ⊢
  split
  · exact ⟨⟨by show l1.length = n + (done + mk); omega, p2, by show done + mk ≤ left; omega, by dsimp only; omega⟩, fun hz => ⟨by show l1.length = n + (done + mk); omega, p2, by show done + mk ≤ left; omega, by have := p4 hz; dsimp only; omega⟩⟩
  rename_i hc
  obtain ⟨r1, r2, r3⟩ := putH_is (li := li) e (hr := hereI e) p2 p3
  generalize putH li l1 mark1 i e (hereI e) = h at *
  obtain ⟨l2, nx, mark2⟩ := h
  simp only at r1 r2 r3 ⊢
  have hM : MarkI l2 (if 32768 ≤ e.2.1 ∧ i < l1.length then (nx : Int) else mark2) := by
    split
    · rename_i hx
      have := r3 hx.2
      unfold MarkI
      omega
    · exact r2
  exact ⟨⟨by show l2.length = n + (done + mk + hereI e); omega, hM, by show done + mk + hereI e ≤ left; omega, by dsimp only; omega⟩, fun hz => ⟨by show l2.length = n + (done + mk + hereI e); omega, hM, by show done + mk + hereI e ≤ left; omega, by have := p4 hz; dsimp only; omega⟩⟩
theorem actI_over (li : List UInt8) (left : Nat) (x : IX) (z : Nat) (e : Ent) (h : x.2.2.2 = true) : (actI li left x z e).1 = x := by
  unfold actI
  rw [if_pos h]
/-- Without lists the line stays, and nothing is put. -/
theorem actI_none (li : List UInt8) (left : Nat) (x : IX) (z : Nat) (e : Ent) (hA : e.2.2.1 = 65535) (hB : e.2.2.2 = 65535) : (actI li left x z e).1.1 = x.1 ∧ (actI li left x z e).1.2.2 = x.2.2 := by
  have h1 : hereI e = 0 := by unfold hereI; rw [if_pos hA]
  have h2 : (if x.2.1 < 0 then 0 else markI e) = 0 := by
    have : markI e = 0 := by unfold markI; rw [if_pos hB]
    rw [this]
    split <;> rfl
  unfold actI
  simp only [h1, h2]
  split
  · exact ⟨rfl, rfl⟩
  rename_i hx
  rw [if_neg (by omega), if_neg (by omega)]
  have h3 : (putM li x.1 x.2.1 z e 0) = (x.1, z, x.2.1) := by unfold putM; rw [if_pos rfl]
  rw [h3]
  have h4 : ∀ i m, (putH li x.1 m i e 0) = (x.1, i, m) := fun i m => by unfold putH; rw [if_pos rfl]
  rw [h4]
  refine ⟨rfl, ?_⟩
  obtain ⟨l, m, d, o⟩ := x
  cases o with
  | true => exact absurd rfl hx
  | false => rfl
end Go.Proofs.Ytbicnkopmamnpaa
end
section

/- What a subtable of layer 17, or 18, is, as its bytes tell it; and the plan that makes one glyph of two: what its bytes tell, and what it does to a line of glyphs 0 and a last one 1. No walk. Conditions: actions of four bytes, no more than two hundred. -/
namespace Go.Proofs.Ytbicnkopmamnpaa
open Go.RowKit Go.Lib

/-- Likewise of layer 18. -/
structure IOk (bs : List UInt8) (glyphs : Nat) (rs : List RP) (S : Nat) : Prop where
  mok : MOk bs glyphs 2 rs S
  l20 : 20 ≤ bs.length
  at_ : num bs 16 4 ≤ bs.length
  each : ∀ j, j < needE bs S → (0 < hereI (entX (bs.drop (num bs 12 4)) 2 j) → num bs 16 4 + 2 * (entX (bs.drop (num bs 12 4)) 2 j).2.2.1 + 2 * hereI (entX (bs.drop (num bs 12 4)) 2 j) ≤ bs.length) ∧ (0 < markI (entX (bs.drop (num bs 12 4)) 2 j) → num bs 16 4 + 2 * (entX (bs.drop (num bs 12 4)) 2 j).2.2.2 + 2 * markI (entX (bs.drop (num bs 12 4)) 2 j) ≤ bs.length)
theorem IOk.det {bs : List UInt8} {glyphs : Nat} {r1 r2 : List RP} {S1 S2 : Nat} (h1 : IOk bs glyphs r1 S1) (h2 : IOk bs glyphs r2 S2) : r1 = r2 ∧ S1 = S2 := h1.mok.det h2.mok

section
variable (acts : List Nat)
end
end Go.Proofs.Ytbicnkopmamnpaa
end
section

/- Subtables of layers 17 and 18 whose entries do nothing: the line stays. No walk; conditions: the entries that the machine needs are such. -/
namespace Go.Proofs.Ytbicnkopmamnpaa
open Go.RowKit Go.Lib

/-- What stays at each step that a machine can take stays. -/
theorem runD_stay2 {X : Type} (P : X → Prop) (S C : Nat) {cl : X → Nat → Nat} {en : Nat → Nat → Ent} {fin : X → Nat → Bool} {act : X → Nat → Ent → X × Int × Int} (hC : ∀ x z, cl x z < C) (hE : ∀ s c, s < S → c < C → (en s c).1 < S) (hs : ∀ x z s c, P x → s < S → c < C → P (act x z (en s c)).1) : ∀ fu x now z re st, now < S → P x → P (runD cl en fin act fu x now z re st).1 := by
  intro fu
  induction fu with
  | zero => intro x now z re st _ h; exact h
  | succ fu ih =>
    intro x now z re st hn h
    unfold runD
    dsimp only
    have h1 := hs x z now (cl x z) h hn (hC x z)
    have h2 := hE now (cl x z) hn (hC x z)
    split
    · split
      · exact h1
      · exact ih _ _ _ _ _ h2 h1
    · split
      · exact h1
      · exact ih _ _ _ _ _ h2 h1
theorem insD_none {bs : List UInt8} {rs : List RP} {S : Nat} (hok : MOk bs 40 2 rs S) (hF : ∀ j, j < needE bs S → (entX (bs.drop (num bs 12 4)) 2 j).2.2.1 = 65535 ∧ (entX (bs.drop (num bs 12 4)) 2 j).2.2.2 = 65535) (li : List UInt8) (left : Nat) (l : List (Int × Int)) : (insD bs rs li left l).1.1 = l ∧ (insD bs rs li left l).1.2.2 = (0, false) := by
  have hC4 : 4 ≤ num bs 0 4 := hok.cls.1
  have hS : 0 < S := by have := hok.least.closed.1; omega
  unfold insD
  refine runD_stay2 (fun x : IX => x.1 = l ∧ x.2.2 = (0, false)) S (num bs 0 4) (fun x z => clD_lt _ _ _ _ hC4) (fun s c hs hc => enM_next bs 2 hok hs hc) ?_ _ _ _ _ _ _ hS ⟨rfl, rfl⟩
  intro x z s c ⟨hx, h0⟩ hs hc
  obtain ⟨hA, hB⟩ := hF _ (ent_in hs hc)
  have := actI_none li left x z (enM bs 2 s c) hA hB
  exact ⟨this.1.trans hx, this.2.trans h0⟩
theorem insG_ids {l : List (Int × Int)} (h : IdsOk l) (z : Int) (ids : List Int) (hi : ∀ y ∈ ids, 0 ≤ y ∧ y ≤ 65535) : IdsOk (insG l z ids) := by
  unfold insG
  split
  · intro p hp
    rcases List.mem_append.1 hp with hp | hp
    · exact h p (List.mem_of_mem_take hp)
    rcases List.mem_append.1 hp with hp | hp
    · obtain ⟨y, hy, rfl⟩ := List.mem_map.1 hp
      have := hi y hy
      exact ⟨by show _ ≤ y; omega, by show y ≤ _; omega⟩
    · exact h p (List.mem_of_mem_drop hp)
  · exact h
theorem actI_ids (li : List UInt8) (left : Nat) (x : IX) (z : Nat) (e : Ent) (h : IdsOk x.1) : IdsOk (actI li left x z e).1.1 := by
  have hM : ∀ mk, IdsOk (putM li x.1 x.2.1 z e mk).1 := fun mk => by
    unfold putM
    split
    · exact h
    split <;> exact insG_ids h _ _ (idsI_le _ _ _)
  have hH : ∀ l m i hr, IdsOk l → IdsOk (putH li l m i e hr).1 := fun l m i hr h => by
    unfold putH
    split
    · exact h
    split <;> exact insG_ids h _ _ (idsI_le _ _ _)
  unfold actI
  simp only
  generalize (if x.2.1 < 0 then 0 else markI e) = mk
  split
  · exact h
  split
  · exact h
  split
  · exact hM mk
  · exact hH _ _ _ _ (hM mk)
end Go.Proofs.Ytbicnkopmamnpaa
end
section

/- drive.Run, with any act that is a function of the program's: a machine goes along a line, whatever the act does by its own contract; what is known at each step may hang on the place. Conditions: a machine and a line in memory; the act keeps the machine, and what else is known; places are below 900000001. -/
namespace Go.Proofs.Ytbicnkopmamnpaa
open Go.RowKit Go.Lib

set_option maxRecDepth 100000 in
set_option maxHeartbeats 3200000 in
theorem drunG_any {X : Type} (line : X → List (Int × Int)) (Inv : X → Nat → World → Prop) (act : X → Nat → Ent → X × Int × Int) (own : Nat → Nat → Prop) (Bm g : Nat) (bs : List UInt8) (k glyphs : Nat) (rs : List RP) (S B Bl gl fn : Nat) (v : Value) (x0 : X) (w : World)
    (henter : ∀ (args : Array Value) (w : World), (callFunc fn args).run Try.prog w = .ok (.enter fn args) w)
    (hM : MIs Bm g bs k rs S w) (hS : S ≤ 65536) (hok : MOk bs glyphs k rs S) (hg1 : 1 ≤ glyphs) (hfit : FitL (tabR (bs.drop (num bs 4 4)) rs).1 (tabR (bs.drop (num bs 4 4)) rs).2) (hown : notM own) (hB : B ≤ w.heap.size)
    (hI : Inv x0 0 w) (hIB : ∀ x z W W', Inv x z W → Below W.heap.size W W' → Inv x z W') (hIZ : ∀ x z W, Inv x z W → z ≤ 900000000) (hIL : ∀ x z W, Inv x z W → ∃ a c, GIs Bl gl a c (line x) W) (hIds : ∀ x z W, Inv x z W → ∀ p ∈ line x, -9223372036854775808 ≤ p.1 ∧ p.1 ≤ 9223372036854775807)
    (n : Nat) (hn : n = (line x0).length) (hn6 : n ≤ 1000000)
    (hact : ∀ x W z e, Inv x z W → KeepC B own w W → (∃ s c, s < S ∧ c < num bs 0 4 ∧ e = enM bs k s c) → e.1 ≤ 65535 → e.2.1 ≤ 65535 → e.2.2.1 ≤ 65535 → e.2.2.2 ≤ 65535 → Calls Try.prog fn #[v, .int .i64 (z : Nat), entV4 e] W fun r W' => r = .returned (.tuple #[.int .i64 (act x z e).2.1, .int .i64 (act x z e).2.2]) ∧ (Inv (act x z e).1 (max (act x z e).2.1 0).toNat W' ∧ (z < (line x).length → Inv (act x z e).1 (max (act x z e).2.2 0).toNat W')) ∧ KeepC B own W W') :
    Calls Try.prog 75 #[.pointer (some ⟨g, 0, none⟩), .pointer (some ⟨gl, 0, none⟩), .func (.func fn) #[v] #[]] w fun e w' =>
      e = .returned (.tuple #[.int .i64 ((runD (fun x z => clD bs rs (line x) z) (enM bs k) (fun x z => decide ((line x).length ≤ z)) act (2 * n + 128) x0 0 0 0 1).2.1 : Nat), .int .i64 ((runD (fun x z => clD bs rs (line x) z) (enM bs k) (fun x z => decide ((line x).length ≤ z)) act (2 * n + 128) x0 0 0 0 1).2.2 : Nat)]) ∧ (∃ z', Inv (runD (fun x z => clD bs rs (line x) z) (enM bs k) (fun x z => decide ((line x).length ≤ z)) act (2 * n + 128) x0 0 0 0 1).1 z' w') ∧ KeepC B own w w' := by
  have hAC := allocC
  have hAF := allocF
  have hN := fn_nilA
  obtain ⟨R, hR⟩ : ∃ R, R = runD (fun x z => clD bs rs (line x) z) (enM bs k) (fun x z => decide ((line x).length ≤ z)) act (2 * n + 128) x0 0 0 0 1 := ⟨_, rfl⟩
  rw [← hR]
  obtain ⟨a0, c0, hG0⟩ := hIL x0 0 w hI
  have hln := glen_any Bl gl a0 c0 (line x0) w hG0
  rw [← hn] at hln
  have HLN := Lib.hid hln
  have HM := Lib.hid hM
  have HCA := Lib.hid (fun W x z (hk : KeepC B own w W) (hx : Inv x z W) (hz : z ≤ 1000000000) => by
    obtain ⟨a, c, hG⟩ := hIL x z W hx
    exact classAt_z Bm g bs k rs S Bl gl a c (line x) z hz W (hM.keepO hk hown) hfit hG (hIds x z W hx))
  have HST := Lib.hid (fun W (hk : KeepC B own w W) s c (hs : s < S) (hc : c < num bs 0 4) => step_yes Bm g bs k rs S s c W (hM.keepO hk hown) hS hs hc)
  have HACT := Lib.hid hact
  have HCL := Lib.hid (fun x z => clD_lt bs rs (line x) z hok.cls.1)
  have HNX := Lib.hid (fun s c (hs : s < S) (hc : c < num bs 0 4) => enM_next bs k hok hs hc)
  have HIB := Lib.hid hIB
  have HI := Lib.hid hI
  have HR := Lib.hid hR
  have HIZ := Lib.hid hIZ
  have HOWN := Lib.hid hown
  have hS2 : 0 < S := by have := hok.least.closed.1; omega
  clear hM hok hfit hown hI hIB hIL hIds hn hact hG0 hln hR hIZ
  go_enter Try.func75, Try.ntmps75
  go_wp2_with (go_at_call 117; (with_reducible refine HLN.out.mono ?_); rintro e w_ ⟨rfl, rfl⟩)
  go_loopw [9, 10, 11, 12] (fun now at' rests steps wr => ∃ (fu : Nat) (x : X) (s z re st : Nat), now = .int .i64 (s : Nat) ∧ at' = .int .i64 (z : Nat) ∧ rests = .int .i64 (re : Nat) ∧ steps = .int .i64 (st : Nat) ∧ s < S ∧ re ≤ 64 ∧ st + fu = 2 * n + 129 ∧ Inv x z wr ∧ KeepC B own w wr ∧ runD (fun x z => clD bs rs (line x) z) (enM bs k) (fun x z => decide ((line x).length ≤ z)) act fu x s z re st = R) (fun _ _ _ steps _ => 2 * n + 129 - (Go.RowKit.intOf steps).toNat)
  case atStart => exact ⟨2 * n + 128, x0, 0, 0, 0, 1, rfl, rfl, rfl, rfl, hS2, Nat.zero_le _, by omega, HI.out, KeepC.refl _ _ _, HR.out.symm⟩
  case round =>
    obtain ⟨fu, x, s, z, re, st, rfl, rfl, rfl, rfl, hs, hre, hst, hx, hk, hrun⟩ := hrel
    rename World => wr
    have HX := Lib.hid hx
    have HK := Lib.hid hk
    have HRUN := Lib.hid hrun
    clear hx hk hrun
    by_cases hfu : fu = 0
    · have hst2 : st = 2 * n + 129 := by omega
      have d1 : decide ((st : Int) ≤ 2 * (n : Int) + 128) = false := by simp; omega
      have hrun := HRUN.out
      rw [hfu, runD] at hrun
      have HRUN := Lib.hid hrun
      clear hfu hrun
      go_wp2_with fail
      go_ret2
      rw [← HRUN.out]
      refine ⟨?_, ⟨_, HX.out⟩, HK.out⟩
      show Ending.returned (.tuple #[.int .i64 (2 * (n : Int) + 128), .int .i64 4]) = Ending.returned (.tuple #[.int .i64 ((st - 1 : Nat) : Int), .int .i64 ((4 : Nat) : Int)])
      rw [show ((st - 1 : Nat) : Int) = 2 * (n : Int) + 128 by omega]
      rfl
    · obtain ⟨f, rfl⟩ : ∃ f, fu = f + 1 := ⟨fu - 1, by omega⟩
      have d1 : decide ((st : Int) ≤ 2 * (n : Int) + 128) = true := by simp; omega
      have hzb : z ≤ 900000000 := HIZ.out _ _ _ HX.out
      have hrun := HRUN.out
      have hC := HCL.out x z
      have hca := HCA.out wr x z HK.out HX.out (by omega)
      have hnx := HNX.out s (clD bs rs (line x) z) hs hC
      have hstp := fun W (hW : KeepC B own w W) => show Calls Try.prog 119 #[.pointer (some ⟨g, 0, none⟩), .int .i64 (s : Nat), .int .i64 (clD bs rs (line x) z : Nat)] W fun e w' => e = .returned (.tuple #[entV4 (enM bs k s (clD bs rs (line x) z)), .bool true]) ∧ Below W.heap.size W w' from HST.out W hW s (clD bs rs (line x) z) hs hC
      have hle : (enM bs k s (clD bs rs (line x) z)).1 ≤ 65535 ∧ (enM bs k s (clD bs rs (line x) z)).2.1 ≤ 65535 ∧ (enM bs k s (clD bs rs (line x) z)).2.2.1 ≤ 65535 ∧ (enM bs k s (clD bs rs (line x) z)).2.2.2 ≤ 65535 := entX_le _ _ _
      rw [runD] at hrun
      (try simp only at hrun)
      generalize he : enM bs k s (clD bs rs (line x) z) = E at *
      generalize clD bs rs (line x) z = C at *
      obtain ⟨e0, e1, e2, e3⟩ := E
      (try simp only at hle hnx hrun)
      have hac := fun W (hi : Inv x z W) (hk : KeepC B own w W) => HACT.out x W z (e0, e1, e2, e3) hi hk ⟨s, C, hs, hC, he.symm⟩ hle.1 hle.2.1 hle.2.2.1 hle.2.2.2
      generalize act x z (e0, e1, e2, e3) = r at hrun hac
      obtain ⟨x1, y1, y2⟩ := r
      (try simp only at hrun hac)
      simp only [entV4] at hac hstp
      obtain ⟨wi, hwi⟩ : ∃ wi, decide (z < (line x).length) = wi := ⟨_, rfl⟩
      rw [hwi] at hca
      have HWI := Lib.hid hwi
      have HC1 := Lib.hid hca
      have HS1 := Lib.hid hstp
      obtain ⟨p1, hp1⟩ : ∃ p : Nat, max y1 0 = p := ⟨(max y1 0).toNat, by omega⟩
      obtain ⟨p2, hp2⟩ : ∃ p : Nat, max y2 0 = p := ⟨(max y2 0).toNat, by omega⟩
      rw [hp1, hp2, Int.toNat_natCast, Int.toNat_natCast] at hrun
      simp only [hp1, hp2, Int.toNat_natCast] at hac
      have HA1 := Lib.hid hac
      have HRN := Lib.hid hrun
      have hle1 := hle.2.1
      have hBr := Nat.le_trans hB HK.out.size
      clear hwi he hca hstp hac hrun hle hC HRUN
      by_cases hA : e1 / 2 ^ 14 % 2 = 1
      · have hbt : bits .and .i64 (e1 : Int) 16384 = 16384 := flag_yes e1 14 hle1 (by decide) 16384 rfl hA
        have hrn := HRN.out
        rw [if_pos hA] at hrn
        by_cases h64 : 64 < re + 1
        · have d2 : decide ((64 : Int) < (re : Int) + 1) = true := by simp; omega
          rw [if_pos h64] at hrn
          have HRN := Lib.hid hrn
          clear hrn hA
          go_wp2_with (first
            | (go_at_call 118; (with_reducible refine HC1.out.mono ?_); rintro e w1 ⟨rfl, hb1⟩; have HK1 := Lib.hid (HK.out.trans (KeepC.of (own := own) hb1 hBr)); have HX1 := Lib.hid (HIB.out _ _ _ _ HX.out hb1); clear hb1)
            | (go_at_call 119; (with_reducible refine (HS1.out _ HK1.out).mono ?_); rintro e w2 ⟨rfl, hb2⟩; have hBw := Nat.le_trans hB HK1.out.size; have hb2' : Below w1.heap.size w1 (w2.alloc (Obj.cells #[.int .i64 (e0 : Nat), .int .i64 (e1 : Nat), .int .i64 (e2 : Nat), .int .i64 (e3 : Nat)] 34)) := balloc hb2 _; have HK2 := Lib.hid (HK1.out.trans (KeepC.of (own := own) hb2' hBw)); have HX2 := Lib.hid (HIB.out _ _ _ _ HX1.out hb2'); clear hb2 hb2' hBw)
            | ((with_reducible refine (HA1.out _ HX2.out HK2.out).mono ?_); rintro e w3 ⟨rfl, hx3, hk3⟩; have h14 := (hk3.kept w2.heap.size _ _ _ (heap_push _ _ _ |>.trans (if_pos rfl)) (HOWN.out.2.2.1 _)).trans (heap_push _ _ _ |>.trans (if_pos rfl)); have q0 := cell_of_heap h14 0; have q1 := cell_of_heap h14 1; simp only [List.getElem?_toArray, List.getElem?_cons_succ, List.getElem?_cons_zero] at q0 q1; have HX3 := Lib.hid hx3; have HK3 := Lib.hid (HK2.out.trans hk3); clear hx3 hk3 h14))
          go_ret2
          rw [← HRN.out]
          exact ⟨rfl, ⟨_, HX3.out.1⟩, HK3.out⟩
        · have d2 : decide ((64 : Int) < (re : Int) + 1) = false := by simp; omega
          rw [if_neg h64] at hrn
          have HRN := Lib.hid hrn
          clear hrn hA
          go_wp2_with (first
            | (go_at_call 118; (with_reducible refine HC1.out.mono ?_); rintro e w1 ⟨rfl, hb1⟩; have HK1 := Lib.hid (HK.out.trans (KeepC.of (own := own) hb1 hBr)); have HX1 := Lib.hid (HIB.out _ _ _ _ HX.out hb1); clear hb1)
            | (go_at_call 119; (with_reducible refine (HS1.out _ HK1.out).mono ?_); rintro e w2 ⟨rfl, hb2⟩; have hBw := Nat.le_trans hB HK1.out.size; have hb2' : Below w1.heap.size w1 (w2.alloc (Obj.cells #[.int .i64 (e0 : Nat), .int .i64 (e1 : Nat), .int .i64 (e2 : Nat), .int .i64 (e3 : Nat)] 34)) := balloc hb2 _; have HK2 := Lib.hid (HK1.out.trans (KeepC.of (own := own) hb2' hBw)); have HX2 := Lib.hid (HIB.out _ _ _ _ HX1.out hb2'); clear hb2 hb2' hBw)
            | ((with_reducible refine (HA1.out _ HX2.out HK2.out).mono ?_); rintro e w3 ⟨rfl, hx3, hk3⟩; have h14 := (hk3.kept w2.heap.size _ _ _ (heap_push _ _ _ |>.trans (if_pos rfl)) (HOWN.out.2.2.1 _)).trans (heap_push _ _ _ |>.trans (if_pos rfl)); have q0 := cell_of_heap h14 0; have q1 := cell_of_heap h14 1; simp only [List.getElem?_toArray, List.getElem?_cons_succ, List.getElem?_cons_zero] at q0 q1; have HX3 := Lib.hid hx3; have HK3 := Lib.hid (HK2.out.trans hk3); clear hx3 hk3 h14))
          go_roundw
          case rel => exact ⟨f, x1, e0, p1, re + 1, st + 1, rfl, by first | (congr 1; split <;> omega) | congr 1, by go_num, by go_num, hnx, by omega, by omega, HX3.out.1, HK3.out, HRN.out⟩
          case measure => simp only [RowKit.intOf]; omega
      · have hbt : bits .and .i64 (e1 : Int) 16384 = 0 := flag_no e1 14 hle1 (by decide) 16384 rfl hA
        have hrn := HRN.out
        rw [if_neg hA] at hrn
        by_cases hC0 : (line x).length ≤ z
        · obtain rfl : wi = false := by rw [← HWI.out]; simp; omega
          rw [if_pos (by simp; omega)] at hrn
          have HRN := Lib.hid hrn
          clear hrn hA hC0
          go_wp2_with (first
            | (go_at_call 118; (with_reducible refine HC1.out.mono ?_); rintro e w1 ⟨rfl, hb1⟩; have HK1 := Lib.hid (HK.out.trans (KeepC.of (own := own) hb1 hBr)); have HX1 := Lib.hid (HIB.out _ _ _ _ HX.out hb1); clear hb1)
            | (go_at_call 119; (with_reducible refine (HS1.out _ HK1.out).mono ?_); rintro e w2 ⟨rfl, hb2⟩; have hBw := Nat.le_trans hB HK1.out.size; have hb2' : Below w1.heap.size w1 (w2.alloc (Obj.cells #[.int .i64 (e0 : Nat), .int .i64 (e1 : Nat), .int .i64 (e2 : Nat), .int .i64 (e3 : Nat)] 34)) := balloc hb2 _; have HK2 := Lib.hid (HK1.out.trans (KeepC.of (own := own) hb2' hBw)); have HX2 := Lib.hid (HIB.out _ _ _ _ HX1.out hb2'); clear hb2 hb2' hBw)
            | ((with_reducible refine (HA1.out _ HX2.out HK2.out).mono ?_); rintro e w3 ⟨rfl, hx3, hk3⟩; have h14 := (hk3.kept w2.heap.size _ _ _ (heap_push _ _ _ |>.trans (if_pos rfl)) (HOWN.out.2.2.1 _)).trans (heap_push _ _ _ |>.trans (if_pos rfl)); have q0 := cell_of_heap h14 0; have q1 := cell_of_heap h14 1; simp only [List.getElem?_toArray, List.getElem?_cons_succ, List.getElem?_cons_zero] at q0 q1; have HX3 := Lib.hid hx3; have HK3 := Lib.hid (HK2.out.trans hk3); clear hx3 hk3 h14))
          go_ret2
          rw [← HRN.out]
          exact ⟨rfl, ⟨_, HX3.out.1⟩, HK3.out⟩
        · obtain rfl : wi = true := by rw [← HWI.out]; simp; omega
          rw [if_neg (by simp; omega)] at hrn
          have HRN := Lib.hid hrn
          clear hrn hA
          go_wp2_with (first
            | (go_at_call 118; (with_reducible refine HC1.out.mono ?_); rintro e w1 ⟨rfl, hb1⟩; have HK1 := Lib.hid (HK.out.trans (KeepC.of (own := own) hb1 hBr)); have HX1 := Lib.hid (HIB.out _ _ _ _ HX.out hb1); clear hb1)
            | (go_at_call 119; (with_reducible refine (HS1.out _ HK1.out).mono ?_); rintro e w2 ⟨rfl, hb2⟩; have hBw := Nat.le_trans hB HK1.out.size; have hb2' : Below w1.heap.size w1 (w2.alloc (Obj.cells #[.int .i64 (e0 : Nat), .int .i64 (e1 : Nat), .int .i64 (e2 : Nat), .int .i64 (e3 : Nat)] 34)) := balloc hb2 _; have HK2 := Lib.hid (HK1.out.trans (KeepC.of (own := own) hb2' hBw)); have HX2 := Lib.hid (HIB.out _ _ _ _ HX1.out hb2'); clear hb2 hb2' hBw)
            | ((with_reducible refine (HA1.out _ HX2.out HK2.out).mono ?_); rintro e w3 ⟨rfl, hx3, hk3⟩; have h14 := (hk3.kept w2.heap.size _ _ _ (heap_push _ _ _ |>.trans (if_pos rfl)) (HOWN.out.2.2.1 _)).trans (heap_push _ _ _ |>.trans (if_pos rfl)); have q0 := cell_of_heap h14 0; have q1 := cell_of_heap h14 1; simp only [List.getElem?_toArray, List.getElem?_cons_succ, List.getElem?_cons_zero] at q0 q1; have HX3 := Lib.hid hx3; have HK3 := Lib.hid (HK2.out.trans hk3); clear hx3 hk3 h14))
          go_roundw
          case rel => exact ⟨f, x1, e0, p2, 0, st + 1, rfl, by first | (congr 1; split <;> omega) | congr 1, rfl, by go_num, hnx, by omega, by omega, HX3.out.2 (by omega), HK3.out, HRN.out⟩
          case measure => simp only [RowKit.intOf]; omega
end Go.Proofs.Ytbicnkopmamnpaa
end
section

/- WholeGrows along a line: a subtable of layer 18 puts a glyph behind each; a subtable of layer 17 makes one of each and the one that was put. No walk; what the bytes tell is laid down as it is asked for. -/
namespace Go.Proofs.Ytbicnkopmamnpaa
open Go.RowKit Go.Lib

end Go.Proofs.Ytbicnkopmamnpaa
end
section

/- The plans of layer 18's first question and of WholeGrows: what their bytes tell. No walk, no condition. -/
namespace Go.Proofs.Ytbicnkopmamnpaa
open Go.RowKit Go.Lib

/-- One behind each glyph, at the end too. -/
def planU : PlanL := ⟨[], [[0], [0]], [(0, 32, 0, 65535)], 0⟩
def putU : List UInt8 := insB planU [9]
theorem putU_runs : insD putU [] (putU.drop (num putU 16 4)) 3 (newG [5, 6]) = (([(5, 0), (9, 1), (6, 1), (9, 1), (9, 1)], -1, 3, false), 3, 0) := by decide +kernel
theorem putU_nums : putU.length = 52 ∧ num putU 0 4 = 4 ∧ num putU 4 4 = 20 ∧ num putU 8 4 = 26 ∧ num putU 12 4 = 42 ∧ num putU 16 4 = 50 ∧ needE putU 2 = 1 ∧ needS putU 2 1 ≤ 2 ∧ num (putU.drop 20) 0 2 = 8 ∧ num (putU.drop 20) 2 2 = 0 ∧ num (putU.drop 20) 4 2 = 0 ∧ entX (putU.drop 42) 2 0 = (0, 32, 0, 65535) := by decide +kernel
theorem eight_ok {bs : List UInt8} {glyphs m : Nat} (h0 : num bs 0 2 = 8) (h2 : num bs 2 2 = 0) (h4 : num bs 4 2 = m) (hm : m ≤ 65535) (hl : 6 + 2 * m ≤ bs.length) : LkOk bs glyphs 2 (rowsT 0 m 6 2) := by
  have := LkRows.eight (bs := bs) (glyphs := glyphs) (size := 2) (by omega) h0 (by omega)
  rw [h2, h4] at this
  exact ⟨this, (ok_rowsT _ _ _ _ _ (by omega)).2 (by omega)⟩
theorem putU_ok (glyphs : Nat) : IOk putU glyphs [] 2 := by
  obtain ⟨hl, n0, n4, n8, n12, n16, hE, hS, a0, a2, a4, x0⟩ := putU_nums
  have hlk : LkOk (putU.drop (num putU 4 4)) glyphs 2 [] := by rw [n4]; exact eight_ok a0 a2 a4 (by decide) (by rw [List.length_drop, hl]; decide)
  refine ⟨⟨by omega, by rw [n0]; decide, by omega, hlk, by omega, by omega, ⟨⟨by decide, by rw [hE]; exact hS⟩, fun S' h => h.1⟩, by rw [n0, n8, hl]; decide, by rw [hE, n12, hl]; decide⟩, by omega, by omega, fun j hj => ?_⟩
  rw [hE] at hj
  obtain rfl : j = 0 := by omega
  rw [n12, n16, x0, hl]
  decide
end Go.Proofs.Ytbicnkopmamnpaa
end
section

/- What an argument that is a plan of a machine and lookups is; the contract of law 15's small. Conditions: as each says. -/
namespace Go.Proofs.Ytbicnkopmamnpaa
section
open Go.ChangeShapes Go.WideShapes Go.ChangeAt Go.RowKit
variable {H : Type} {enc : TypeId × Value → H}
theorem open_u16C {P : Program} {W : World} {t e : TypeId} {f : Nat} {v : Value} {y : DataW H × List MemPlace} (ht : P.underlying t = some (.slice e)) (he : P.underlying e = some (.int .u16))
    (h : DataW.trod enc P W 0 (fun _ => true) true f t [v] = some y) : ∃ (a : Option Addr) (c : Nat) (ss : List Nat), v = .slice a ss.length c ∧ Has W a (u16V ss) ∧ ∀ x ∈ ss, x ≤ 65535 := by
  obtain ⟨a, n, c, us, rfl, hl, _, _, _, hh, hx⟩ := open_rows_cell ht h
  have key : ∀ us : List (List Value), (∀ x ∈ us, ∃ m y, DataW.trod enc P W 0 (fun _ => true) true m e x = some y) → ∃ ss : List Nat, ss.length = us.length ∧ us.flatten = u16V ss ∧ ∀ x ∈ ss, x ≤ 65535 := by
    intro us
    induction us with
    | nil => exact fun _ => ⟨[], rfl, rfl, fun x hx => by cases hx⟩
    | cons x us ih =>
      intro h
      obtain ⟨ss, h1, h2, h3⟩ := ih (fun y hy => h y (by simp [hy]))
      obtain ⟨m, y, hy⟩ := h x (by simp)
      obtain ⟨z, rfl, _, hw⟩ := DataW.trod_int he hy
      obtain ⟨k, rfl, hk⟩ := wf_u16 hw
      refine ⟨k :: ss, by simp [h1], by simp [h2, u16V], fun x hx => ?_⟩
      rcases List.mem_cons.1 hx with rfl | hx
      · exact hk
      · exact h3 x hx
  obtain ⟨ss, h1, h2, h3⟩ := key us (fun x hx' => (hx x hx').2)
  exact ⟨a, c, ss, by rw [h1, hl], h2 ▸ hh, h3⟩
theorem array5 {α : Type} {cs : Array α} (h : cs.size = 5) : ∃ c0 c1 c2 c3 c4, cs = #[c0, c1, c2, c3, c4] := by
  obtain ⟨l⟩ := cs
  match l, h with
  | [c0, c1, c2, c3, c4], _ => exact ⟨c0, c1, c2, c3, c4, rfl⟩
set_option maxRecDepth 100000 in
theorem open_planCells {W : World} {f : Nat} {v0 v1 v2 v3 : Value} {y : DataW H × List MemPlace} (h : DataW.trod enc Try.prog W 0 (fun _ => true) true f 26 [v0, v1, v2, v3] = some y) :
    ∃ (p : PlanL) (aC aR aE : Option Addr) (rv : List Value) (cC cR cE : Nat), v0 = .slice aC p.cls.length cC ∧ v1 = .slice aR p.rows.length cR ∧ v2 = .slice aE p.ents.length cE ∧ v3 = .int .u8 (p.wide.toNat : Nat) ∧ PlanHas W p aC aR rv aE ∧ (∀ e ∈ p.ents, wfI e.1 ∧ wfI e.2.1 ∧ wfI e.2.2.1 ∧ wfI e.2.2.2) ∧ (aE = none → cE = 0) := by
  obtain ⟨y0, y1, y2, y3, n, _, _, h0, h1, h2, h3⟩ := Go.Joins.trod_struct4 Try.underlying26 h
  change DataW.trod enc Try.prog W 0 (fun _ => true) true n 22 [v0] = some y0 at h0
  change DataW.trod enc Try.prog W 0 (fun _ => true) true n 23 [v1] = some y1 at h1
  change DataW.trod enc Try.prog W 0 (fun _ => true) true n 24 [v2] = some y2 at h2
  change DataW.trod enc Try.prog W 0 (fun _ => true) true n 5 [v3] = some y3 at h3
  obtain ⟨aC, cC, bs, rfl, hC⟩ := open_bytesC Try.underlying22 Try.underlying5 h0
  obtain ⟨aR, cR, l, rv, rfl, hR, hRl, hRr⟩ := open_rowsC Try.underlying23 Try.underlying22 Try.underlying5 (by kernel_rfl) h1
  obtain ⟨aE, cE, es, rfl, hE, hE0, hEw⟩ := open_entsC Try.underlying24 Try.underlying34 Try.underlying3 Try.underlying3 Try.underlying3 Try.underlying3 rfl rfl rfl rfl (by kernel_rfl) (by kernel_rfl) (by kernel_rfl) (by kernel_rfl) (by kernel_rfl) h2
  obtain ⟨z, e0, _, hw⟩ := DataW.trod_int Try.underlying5 h3
  obtain ⟨k, rfl, hk⟩ := wf_u8 hw
  injection e0 with e0
  subst e0
  have e1 : ((UInt8.ofNat k).toNat : Int) = k := by simp; omega
  refine ⟨⟨bs, l, es, UInt8.ofNat k⟩, aC, aR, aE, rv, cC, cR, cE, rfl, rfl, rfl, ?_, ⟨hC, hR, hRl, hRr, hE⟩, hEw, hE0⟩
  rw [e1]
end

open Go.RowKit Go.Lib
end Go.Proofs.Ytbicnkopmamnpaa
end
