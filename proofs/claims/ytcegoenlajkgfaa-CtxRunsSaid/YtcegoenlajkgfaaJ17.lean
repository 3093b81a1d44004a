/- Joined from: DBits DSpec KSwap KSpec KRead KLaw. -/
import Derived.Test.YtcegoenlajkgfaaJ01
import Derived.Test.YtcegoenlajkgfaaJ12
import Derived.Test.YtcegoenlajkgfaaJ16
import Derived.Test.YtcegoenlajkgfaaJ15
import Derived.Test.YtcegoenlajkgfaaJ04
import Derived.Deep.WholeRow
section

/- Flags of an entry, as bits. Condition: numbers of two bytes. -/
namespace Go.Proofs.Ytcegoenlajkgfaa
open Go.RowKit

theorem bits_and (v m : Nat) (hv : v ≤ 65535) (hm : m ≤ 65535) : bits .and .i64 (v : Int) (m : Int) = ((v &&& m : Nat) : Int) := by
  have e : (BitVec.ofInt 64 (v : Int)).toNat = v := by rw [BitVec.toNat_ofInt]; omega
  have e2 : (BitVec.ofInt 64 (m : Int)).toNat = m := by rw [BitVec.toNat_ofInt]; omega
  have h : v &&& m ≤ v := Nat.and_le_left
  simp only [bits, BitVec.toNat_and]
  show IntKind.wrap .i64 (((BitVec.ofInt 64 (v : Int)).toNat &&& (BitVec.ofInt 64 (m : Int)).toNat : Nat) : Int) = _
  rw [e, e2, IntKind.wrap_i64]
  omega
theorem nat_and_pow (v k : Nat) : v &&& 2 ^ k = if v / 2 ^ k % 2 = 1 then 2 ^ k else 0 := by
  apply Nat.eq_of_testBit_eq
  intro i
  rw [Nat.testBit_and, Nat.testBit_two_pow]
  by_cases hi : k = i
  · subst hi
    by_cases hb : v / 2 ^ k % 2 = 1
    · rw [if_pos hb, Nat.testBit_two_pow, Nat.testBit_eq_decide_div_mod_eq, hb]; simp
    · rw [if_neg hb, Nat.testBit_eq_decide_div_mod_eq]; simp [hb]
  · split
    · rw [Nat.testBit_two_pow]; simp [hi]
    · simp [hi]
theorem flag_yes (v k : Nat) (hv : v ≤ 65535) (hk : 2 ^ k ≤ 65535) (z : Int) (hz : z = ((2 ^ k : Nat) : Int)) (h : v / 2 ^ k % 2 = 1) : bits .and .i64 (v : Int) z = z := by
  subst hz
  rw [bits_and _ _ hv hk, nat_and_pow, if_pos h]
theorem flag_no (v k : Nat) (hv : v ≤ 65535) (hk : 2 ^ k ≤ 65535) (z : Int) (hz : z = ((2 ^ k : Nat) : Int)) (h : ¬ v / 2 ^ k % 2 = 1) : bits .and .i64 (v : Int) z = 0 := by
  subst hz
  rw [bits_and _ _ hv hk, nat_and_pow, if_neg h]
  rfl
end Go.Proofs.Ytcegoenlajkgfaa
end
section

/- A machine on its way along a line, as a function; drive's classAt at any place. Conditions: a machine and a line in memory; sizes. -/
namespace Go.Proofs.Ytcegoenlajkgfaa
open Go.RowKit Go.Lib

/-- An entry: its next state, flags, and two words. -/
abbrev Ent := Nat × Nat × Nat × Nat
def entX (vb : List UInt8) (k j : Nat) : Ent := (num vb (j * (4 + 2 * k)) 2, num vb (j * (4 + 2 * k) + 2) 2, if 0 < k then num vb (j * (4 + 2 * k) + 4) 2 else 0, if 1 < k then num vb (j * (4 + 2 * k) + 6) 2 else 0)
def entV4 (e : Ent) : Value := .agg #[.int .i64 (e.1 : Nat), .int .i64 (e.2.1 : Nat), .int .i64 (e.2.2.1 : Nat), .int .i64 (e.2.2.2 : Nat)]
theorem entX_le (vb : List UInt8) (k j : Nat) : (entX vb k j).1 ≤ 65535 ∧ (entX vb k j).2.1 ≤ 65535 ∧ (entX vb k j).2.2.1 ≤ 65535 ∧ (entX vb k j).2.2.2 ≤ 65535 := by
  unfold entX
  refine ⟨num2_lt _ _, num2_lt _ _, ?_, ?_⟩
  · dsimp only; split
    · exact num2_lt _ _
    · omega
  · dsimp only; split
    · exact num2_lt _ _
    · omega
/-- The entry of a state and a class. -/
def enM (bs : List UInt8) (k s c : Nat) : Ent := entX (bs.drop (num bs 12 4)) k (entN bs (s * num bs 0 4 + c))
/-- The class of a line's place, or of its end. -/
def clD (bs : List UInt8) (rs : List RP) (l : List (Int × Int)) (z : Nat) : Nat := match l[z]? with
  | some p => classM bs rs p.1
  | none => 0
theorem classM_less (bs : List UInt8) (rs : List RP) (id : Int) (h : 4 ≤ num bs 0 4) : classM bs rs id < num bs 0 4 := by
  unfold classM
  split
  · omega
  · simp only
    split
    · rename_i h2; exact h2.2
    · omega
theorem clD_lt (bs : List UInt8) (rs : List RP) (l : List (Int × Int)) (z : Nat) (h : 4 ≤ num bs 0 4) : clD bs rs l z < num bs 0 4 := by
  unfold clD
  split
  · exact classM_less _ _ _ h
  · omega
theorem enM_next (bs : List UInt8) (k : Nat) {glyphs : Nat} {rs : List RP} {S s c : Nat} (hok : MOk bs glyphs k rs S) (hs : s < S) (hc : c < num bs 0 4) : (enM bs k s c).1 < S := by
  have h1 : entN bs (s * num bs 0 4 + c) < needE bs S := ent_in hs hc
  have h2 : nextN bs k (entN bs (s * num bs 0 4 + c)) < needS bs k (needE bs S) := needL_lt h1
  have h3 := hok.least.closed.2
  have h4 : (enM bs k s c).1 = nextN bs k (entN bs (s * num bs 0 4 + c)) := by
    unfold enM entX nextN
    rw [num_dropS]
  omega
/-- A machine goes along a line: what becomes of it, how many steps, and the error. -/
def runD {X : Type} (cl : X → Nat → Nat) (en : Nat → Nat → Ent) (fin : X → Nat → Bool) (act : X → Nat → Ent → X × Int × Int) : Nat → X → Nat → Nat → Nat → Nat → X × Nat × Nat
  | 0, x, _, _, _, st => (x, st - 1, 4)
  | fu + 1, x, now, z, re, st =>
    let e := en now (cl x z)
    let r := act x z e
    if e.2.1 / 2 ^ 14 % 2 = 1 then (if 64 < re + 1 then (r.1, st, 4) else runD cl en fin act fu r.1 e.1 (max r.2.1 0).toNat (re + 1) (st + 1))
    else if fin x z then (r.1, st, 0) else runD cl en fin act fu r.1 e.1 (max r.2.2 0).toNat 0 (st + 1)
/-- What holds of a line at first, and stays at each step, holds of what becomes of it. -/
theorem runD_keeps {X : Type} (P : X → Prop) {cl : X → Nat → Nat} {en : Nat → Nat → Ent} {fin : X → Nat → Bool} {act : X → Nat → Ent → X × Int × Int} (hs : ∀ x z e, P x → P (act x z e).1) : ∀ fu x now z re st, P x → P (runD cl en fin act fu x now z re st).1 := by
  intro fu
  induction fu with
  | zero => intro x now z re st h; exact h
  | succ fu ih =>
    intro x now z re st h
    unfold runD
    dsimp only
    split
    · split
      · exact hs _ _ _ h
      · exact ih _ _ _ _ _ (hs _ _ _ h)
    · split
      · exact hs _ _ _ h
      · exact ih _ _ _ _ _ (hs _ _ _ h)
set_option maxRecDepth 100000 in
set_option maxHeartbeats 1600000 in
theorem classAt_z (B g : Nat) (bs : List UInt8) (k : Nat) (rs : List RP) (S : Nat) (Bl gl : Nat) (a : Option Addr) (c : Nat) (l : List (Int × Int)) (z : Nat) (hz : z ≤ 1000000000) (w : World) (h : MIs B g bs k rs S w) (hf : FitL (tabR (bs.drop (num bs 4 4)) rs).1 (tabR (bs.drop (num bs 4 4)) rs).2) (hG : GIs Bl gl a c l w) (hid : ∀ p ∈ l, -9223372036854775808 ≤ p.1 ∧ p.1 ≤ 9223372036854775807) :
    Calls Try.prog 71 #[.pointer (some ⟨g, 0, none⟩), .pointer (some ⟨gl, 0, none⟩), .int .i64 (z : Nat)] w fun e w' => e = .returned (.tuple #[.int .i64 (clD bs rs l z : Nat), .bool (decide (z < l.length))]) ∧ Below w.heap.size w w' := by
  have hAC := allocC
  have hAF := allocF
  have HAt := Lib.hid (gat_any Bl gl a c l w hG (z : Nat))
  have HM := Lib.hid h
  have HF := Lib.hid hf
  cases hl : l[z]? with
  | none =>
    have hin : inG l (z : Nat) = false := by
      have := List.getElem?_eq_none_iff.1 hl
      unfold inG
      simp
      omega
    rw [show clD bs rs l z = 0 by rw [clD, hl], show decide (z < l.length) = false by have := List.getElem?_eq_none_iff.1 hl; simp; omega]
    rw [hin, show atG l (z : Nat) = (0, 0) by rw [atG, if_neg (by rw [hin]; decide)]] at HAt
    simp only [glyphA] at HAt
    clear hl hin h hG hid hf
    go_enter Try.func71, Try.ntmps71
    go_wp2_with (go_at_call 49; (with_reducible refine HAt.out.mono ?_); rintro e w1 ⟨rfl, hb1⟩)
    go_ret2
    exact ⟨rfl, blw⟩
  | some p =>
    have hin : inG l (z : Nat) = true := inG_of hl
    have hat : atG l (z : Nat) = p := atG_of hl
    have hp := hid p (List.mem_of_getElem? hl)
    rw [show clD bs rs l z = classM bs rs p.1 by rw [clD, hl], show decide (z < l.length) = true by have := (List.getElem?_eq_some_iff.1 hl).1; simp; omega]
    rw [hin, hat] at HAt
    obtain ⟨p1, p2⟩ := p
    simp only [glyphA] at HAt hp
    have HC := Lib.hid (fun W (hW : Below w.heap.size w W) => class_any B g bs k rs S p1 W (HM.out.below hW) HF.out hp)
    clear hl hin hat h hG hid hf hp
    generalize classM bs rs p1 = C at *
    go_enter Try.func71, Try.ntmps71
    go_wp2_with (first | (go_at_call 49; (with_reducible refine HAt.out.mono ?_); rintro e w1 ⟨rfl, hb1⟩; have h1c := bc hb1; have h1f := bf hb1; have h1z := hb1.size) | (go_at_call 99; (with_reducible refine (HC.out _ (by exact blw)).mono ?_); rintro e w2 ⟨rfl, hb2⟩))
    go_ret2
    exact ⟨rfl, blw⟩
end Go.Proofs.Ytcegoenlajkgfaa
end
section

/- Lookups of a subtable that changes glyphs by what stands around them, as the document has them, and what its swap does. Conditions: the lookups in memory; sizes. -/
namespace Go.Proofs.Ytcegoenlajkgfaa
open Go.RowKit Go.Lib

/-- A lookup of the document's, and where it lies. -/
structure SubD where
  a : Option Addr
  n : Nat
  c : Nat
  bs : List UInt8
  a' : Option Addr
  c' : Nat
  rs : List RP
def SubD.v (s : SubD) : List Value := [.slice s.a s.n s.c, .slice s.a' s.rs.length s.c']
def subsV (l : List SubD) : List Value := l.flatMap SubD.v
theorem subsV_length : ∀ l : List SubD, (subsV l).length = l.length * 2
  | [] => rfl
  | s :: l => by
    have ih := subsV_length l
    show (s.v ++ subsV l).length = _
    simp [SubD.v] at ih ⊢
    omega
theorem subsV_get : ∀ {l : List SubD} {k : Nat} {s : SubD}, l[k]? = some s → (subsV l)[k * 2]? = some (.slice s.a s.n s.c) ∧ (subsV l)[k * 2 + 1]? = some (.slice s.a' s.rs.length s.c')
  | [], k, s, h => by simp at h
  | x :: l, 0, s, h => by
    simp at h
    subst h
    exact ⟨rfl, rfl⟩
  | x :: l, k + 1, s, h => by
    rw [List.getElem?_cons_succ] at h
    have ih := subsV_get h
    have e : subsV (x :: l) = .slice x.a x.n x.c :: .slice x.a' x.rs.length x.c' :: subsV l := rfl
    rw [e, show (k + 1) * 2 = k * 2 + 1 + 1 by omega]
    simp only [List.getElem?_cons_succ]
    exact ih
structure SubOk (glyphs : Nat) (s : SubD) (w : World) : Prop where
  has : Has w s.a (bytesV s.bs)
  rows : Has w s.a' (encRs s.rs)
  len : s.bs.length = s.n
  few : s.n ≤ 4000
  g2 : glyphs ≤ 65535
  lk : LkOk s.bs glyphs 2 s.rs
theorem SubOk.below {glyphs : Nat} {s : SubD} {w w' : World} (h : SubOk glyphs s w) (hb : Below w.heap.size w w') : SubOk glyphs s w' := ⟨h.has.below hb, h.rows.below hb, h.len, h.few, h.g2, h.lk⟩
structure SubsIs (glyphs : Nat) (aS : Option Addr) (l : List SubD) (w : World) : Prop where
  has : Has w aS (subsV l)
  each : ∀ s ∈ l, SubOk glyphs s w
theorem SubsIs.below {glyphs : Nat} {aS : Option Addr} {l : List SubD} {w w' : World} (h : SubsIs glyphs aS l w) (hb : Below w.heap.size w w') : SubsIs glyphs aS l w' := ⟨h.has.below hb, fun s hs => (h.each s hs).below hb⟩
/-- What the lookups give. -/
def lkS (l : List SubD) (which : Nat) (id : Int) : Nat × Bool := match l[which]? with
  | some s => refG s.bs s.rs id
  | none => (0, false)
/-- Another glyph in a place, if a lookup has one. -/
def swG (lk : Nat → Int → Nat × Bool) (l : List (Int × Int)) (i : Int) (which : Nat) : List (Int × Int) :=
  if which = 65535 then l else if inG l i = true then (if (lk which (atG l i).1).2 = true then setG l i ((lk which (atG l i).1).1 : Nat) else l) else l
theorem swG_length (lk : Nat → Int → Nat × Bool) (l : List (Int × Int)) (i : Int) (which : Nat) : (swG lk l i which).length = l.length := by
  unfold swG
  split
  · rfl
  split
  · split
    · exact setG_length _ _ _
    · rfl
  · rfl
set_option maxRecDepth 100000 in
set_option maxHeartbeats 3200000 in
theorem refswap_any (glyphs : Nat) (mach : Array Value) (m0 m1 m2 m3 m4 m5 m6 m7 m8 : Value) (hm : mach = #[m0, m1, m2, m3, m4, m5, m6, m7, m8]) (h1 : ∀ v ∈ mach, v.oneCell' = true) (aS : Option Addr) (nS cS : Nat) (subs : List SubD) (al : Option Addr) (nl cl : Nat) (l : List (Int × Int)) (i : Int) (which : Nat) (w : World) (hS : SubsIs glyphs aS subs w) (hSl : subs.length = nS) (hl : Has w al (gv l)) (hln : l.length = nl) (hA : al = none → cl = 0) (hids : ∀ p ∈ l, -9223372036854775808 ≤ p.1 ∧ p.1 ≤ 9223372036854775807) (hn : nl ≤ 1000000) (hw : which = 65535 ∨ which < nS) (h60 : nS ≤ 65535) (g6 : Nat) (hg : g6 < w.heap.size) (hne : 0 < nl → ∀ p, al = some p → p.block ≠ g6) :
    Calls Try.prog 52 #[.agg #[m0, m1, m2, m3, m4, m5, m6, m7, m8, .slice aS nS cS], .slice al nl cl, .int .i64 i, .int .i64 (which : Nat)] w fun e w' => ∃ a' c', e = .returned (.slice a' nl c') ∧ Has w' a' (gv (swG (lkS subs) l i which)) ∧ (a' = none → c' = 0) ∧ (0 < nl → ∀ p, a' = some p → p.block ≠ g6) ∧ Below w.heap.size w w' := by
  have hAC := allocC
  have hAF := allocF
  have HH := Lib.hid hl
  have HA := Lib.hid hA
  have HNE := Lib.hid hne
  have HOUT : ∀ W, Below w.heap.size w W → swG (lkS subs) l i which = l → ∃ a' c', Ending.returned (Value.slice al nl cl) = .returned (.slice a' nl c') ∧ Has W a' (gv (swG (lkS subs) l i which)) ∧ (a' = none → c' = 0) ∧ (0 < nl → ∀ p, a' = some p → p.block ≠ g6) ∧ Below w.heap.size w W := fun W hW he => ⟨al, cl, rfl, by rw [he]; exact HH.out.below hW, HA.out, HNE.out, hW⟩
  have HO := Lib.hid HOUT
  clear HOUT
  by_cases h5 : which = 65535
  · subst h5
    have hs : swG (lkS subs) l i 65535 = l := by unfold swG; rw [if_pos rfl]
    have HS := Lib.hid hs
    clear hS hSl hl hA hids hw hne hs h1
    go_enter Try.func52, Try.ntmps52
    go_wp2_with fail
    go_ret
    exact HO.out _ (by exact blw) HS.out
  have d0 : ((which : Int) == 65535) = false := by simp; omega
  by_cases hi0 : i < 0
  · have hs : swG (lkS subs) l i which = l := by
      unfold swG
      rw [if_neg h5, if_neg]
      simp only [inG, Bool.and_eq_true, decide_eq_true_eq]
      omega
    have HS := Lib.hid hs
    have d1 : decide (i < 0) = true := by simpa using hi0
    clear hS hSl hl hA hids hw hne hs h1 h5
    go_enter Try.func52, Try.ntmps52
    go_wp2_with fail
    go_ret
    exact HO.out _ (by exact blw) HS.out
  have d1 : decide (i < 0) = false := by simpa using hi0
  by_cases hin : (nl : Int) ≤ i
  · have hs : swG (lkS subs) l i which = l := by
      unfold swG
      rw [if_neg h5, if_neg]
      simp only [inG, Bool.and_eq_true, decide_eq_true_eq]
      omega
    have HS := Lib.hid hs
    have d2 : decide ((nl : Int) ≤ i) = true := by simpa using hin
    clear hS hSl hl hA hids hw hne hs h1 h5 hi0
    go_enter Try.func52, Try.ntmps52
    go_wp2_with fail
    go_ret
    exact HO.out _ (by exact blw) HS.out
  obtain ⟨k, rfl⟩ : ∃ k : Nat, i = k := ⟨i.toNat, by omega⟩
  have hk : k < nl := by omega
  have hwS : which < nS := by omega
  have d2 : decide ((nl : Int) ≤ (k : Int)) = false := by simp; omega
  have d3 : decide (nl ≤ k) = false := by simp; omega
  have d4 : decide (nS ≤ which) = false := by simp; omega
  obtain ⟨s, hs⟩ : ∃ s, subs[which]? = some s := ⟨_, List.getElem?_eq_getElem (by omega)⟩
  obtain ⟨p, hp⟩ : ∃ p, l[k]? = some p := ⟨_, List.getElem?_eq_getElem (by omega)⟩
  have hids' := hids p (List.mem_of_getElem? hp)
  have hsub := hS.each s (List.mem_of_getElem? hs)
  have hget := fun W (hW : Below w.heap.size w W) => refget_any s.a s.n s.c s.bs s.a' s.c' s.rs p.1 W (hsub.has.below hW) hsub.len (by have := hsub.few; omega) (hsub.rows.below hW) (by have := (hsub.lk.rows.each hsub.g2 (.inl rfl)).1; omega) (by have := hsub.lk.fitG hsub.g2 (.inl rfl); rwa [hsub.len] at this) hids'
  have hsw : swG (lkS subs) l (k : Nat) which = if (refG s.bs s.rs p.1).2 = true then setG l (k : Nat) ((refG s.bs s.rs p.1).1 : Nat) else l := by
    unfold swG
    rw [if_neg h5, if_pos (inG_of hp), atG_of hp]
    have e : lkS subs which = refG s.bs s.rs := by
      funext id
      unfold lkS
      rw [hs]
    rw [e]
  obtain ⟨gs, os, rfl, hgs, hcs⟩ := hS.has.get (by rw [subsV_length]; omega)
  have c0 := hcs (which * 2) _ (subsV_get hs).1
  have c1 := hcs (which * 2 + 1) _ (subsV_get hs).2
  simp only [← Nat.add_assoc] at c1
  obtain ⟨gi, oi, p', rfl, hgi, hp', e0, e1⟩ := gv_at hl (k := k) (by omega)
  obtain rfl : p = p' := by rw [hp] at hp'; injection hp'
  obtain ⟨p1, p2⟩ := p
  simp only at hget hsw e0 e1
  have HSW := Lib.hid hsw
  have HG := Lib.hid hget
  have HLN := Lib.hid hln
  generalize refG s.bs s.rs p1 = q at *
  obtain ⟨q1, q2⟩ := q
  simp only at HSW HG
  obtain ⟨sa, sn, sc, sbs, sa', sc', srs⟩ := s
  simp only at c0 c1 HG
  generalize srs.length = sL at *
  clear hS hSl hl hA hids hw hne hsw h5 hi0 hin hs hp hp' hget hids' hsub hcs hln
  go_enter Try.func52, Try.ntmps52
  go_wp2_with fail
  obtain ⟨V, hV⟩ : ∃ V, V = w.alloc (Obj.cells #[m0, m1, m2, m3, m4, m5, m6, m7, m8, .slice (some ⟨gs, os, none⟩) nS cS] 45) := ⟨_, rfl⟩
  have hbV : Below w.heap.size w V := by rw [hV]; exact balloc (brefl w) _
  have x4 : V.heap[w.heap.size]? = some (.cells #[m0, m1, m2, m3, m4, m5, m6, m7, m8, .slice (some ⟨gs, os, none⟩) nS cS] 45 (0, 0)) := by rw [hV]; exact (heap_push _ _ _).trans (if_pos rfl)
  rw [← hV]
  have q4 := fun o => cell_of_heap x4 o
  have l4 := (Array.getElem?_eq_some_iff.1 x4).1
  have hvz := hbV.size
  have HB := Lib.hid hbV
  have c0 := (hbV.cell (p := ⟨gs, os + which * 2, none⟩) hgs).trans c0
  have c1 := (hbV.cell (p := ⟨gs, os + which * 2 + 1, none⟩) hgs).trans c1
  have e0 := (hbV.cell (p := ⟨gi, oi + k * 2, none⟩) hgi).trans e0
  have hgs : gs < V.heap.size := by omega
  have hgi : gi < V.heap.size := by omega
  clear hV hbV x4 e1
  refine wp_region_tree (.step 0 (.step 1 (.step 2 (.step 3 (.step 4 (.step 5 (.step 6 (.step 7 (.step 8 (.step 9 (.step 10 (.step 11 (.step 12 (.step 13 (.step 14 (.step 15 .nil)))))))))))))))) (by kernel_rfl) (by kernel_rfl) (by kernel_rfl) (by kernel_rfl) (by intro _ _ d_ _ _ h_; cases d_ <;> first | exact h_ | (dsimp +zetaDelta only at h_ ⊢; exact h_)) (fun w' => ∃ p : Wld V [], w' = p.val) (wld_start _ _) ?_
  have hG_ := @wldC V
  (refine tree_quiet (by simp only [List.getElem?_toArray, List.getElem?_cons_succ, List.getElem?_cons_zero]; rfl) (by rfl) (by rfl) (fun K_ hK_ => ?_); go_big_quiet_op; refine hK_ _ ?_; clear hK_ K_)
  (refine tree_quiet (by simp only [List.getElem?_toArray, List.getElem?_cons_succ, List.getElem?_cons_zero]; rfl) (by rfl) (by rfl) (fun K_ hK_ => ?_); go_big_quiet_op; refine hK_ _ ?_; clear hK_ K_)
  (refine tree_quiet (by simp only [List.getElem?_toArray, List.getElem?_cons_succ, List.getElem?_cons_zero]; rfl) (by rfl) (by rfl) (fun K_ hK_ => ?_); go_big_quiet_op; refine hK_ _ ?_; clear hK_ K_)
  (refine tree_quiet (by simp only [List.getElem?_toArray, List.getElem?_cons_succ, List.getElem?_cons_zero]; rfl) (by rfl) (by rfl) (fun K_ hK_ => ?_); go_big_quiet_op; refine hK_ _ ?_; clear hK_ K_)
  (refine tree_quiet (by simp only [List.getElem?_toArray, List.getElem?_cons_succ, List.getElem?_cons_zero]; rfl) (by rfl) (by rfl) (fun K_ hK_ => ?_); go_big_quiet_op; refine hK_ _ ?_; clear hK_ K_)
  (refine tree_quiet (by simp only [List.getElem?_toArray, List.getElem?_cons_succ, List.getElem?_cons_zero]; rfl) (by rfl) (by rfl) (fun K_ hK_ => ?_); go_big_quiet_op; refine hK_ _ ?_; clear hK_ K_)
  (refine tree_quiet (by simp only [List.getElem?_toArray, List.getElem?_cons_succ, List.getElem?_cons_zero]; rfl) (by rfl) (by rfl) (fun K_ hK_ => ?_); go_big_quiet_op; refine hK_ _ ?_; clear hK_ K_)
  (refine tree_quiet (by simp only [List.getElem?_toArray, List.getElem?_cons_succ, List.getElem?_cons_zero]; rfl) (by rfl) (by rfl) (fun K_ hK_ => ?_); go_big_quiet_op; refine hK_ _ ?_; clear hK_ K_)
  (refine tree_quiet (by simp only [List.getElem?_toArray, List.getElem?_cons_succ, List.getElem?_cons_zero]; rfl) (by rfl) (by rfl) (fun K_ hK_ => ?_); go_big_quiet_op; refine hK_ _ ?_; clear hK_ K_)
  (refine tree_quiet (by simp only [List.getElem?_toArray, List.getElem?_cons_succ, List.getElem?_cons_zero]; rfl) (by rfl) (by rfl) (fun K_ hK_ => ?_); go_big_quiet_op; refine hK_ _ ?_; clear hK_ K_)
  (refine tree_run (by simp only [List.getElem?_toArray, List.getElem?_cons_succ, List.getElem?_cons_zero]; rfl) (by rfl) (by rfl) (fun K_ hK_ => ?_); have HK_ := Lib.hid hK_; clear hK_; go_wp2_with ((go_at_call 32; (with_reducible refine (HG.out _ (HB.out.trans (Below.mono (w := V) (by exact blw) hvz))).mono ?_); rintro e w1 ⟨rfl, hb1⟩)); refine HK_.out _ _ (wld_ofA) ?_; clear HK_)
  (refine tree_quiet (by simp only [List.getElem?_toArray, List.getElem?_cons_succ, List.getElem?_cons_zero]; rfl) (by rfl) (by rfl) (fun K_ hK_ => ?_); go_big_quiet_op; refine hK_ _ ?_; clear hK_ K_)
  (refine tree_quiet (by simp only [List.getElem?_toArray, List.getElem?_cons_succ, List.getElem?_cons_zero]; rfl) (by rfl) (by rfl) (fun K_ hK_ => ?_); go_big_quiet_op; refine hK_ _ ?_; clear hK_ K_)
  (refine tree_quiet (by simp only [List.getElem?_toArray, List.getElem?_cons_succ, List.getElem?_cons_zero]; rfl) (by rfl) (by rfl) (fun K_ hK_ => ?_); go_big_quiet_op; refine hK_ _ ?_; clear hK_ K_)
  (refine tree_quiet (by simp only [List.getElem?_toArray, List.getElem?_cons_succ, List.getElem?_cons_zero]; rfl) (by rfl) (by rfl) (fun K_ hK_ => ?_); go_big_quiet_op; refine hK_ _ ?_; clear hK_ K_)
  (refine tree_quiet (by simp only [List.getElem?_toArray, List.getElem?_cons_succ, List.getElem?_cons_zero]; rfl) (by rfl) (by rfl) (fun K_ hK_ => ?_); go_big_quiet_op; refine hK_ _ ?_; clear hK_ K_)
  refine tree_nil ?_
  clear hG_
  have hb1 : Below V.heap.size V w1 := (by exact blw)
  have HB1 := Lib.hid (HB.out.trans (hb1.mono hvz))
  clear q4 c0 c1 e0 hgs hgi hb1
  cases q2 with
  | false =>
    have hsw : swG (lkS subs) l (k : Nat) which = l := by rw [HSW.out]; exact if_neg (by simp)
    have HS := Lib.hid hsw
    clear hsw
    go_wp2_with fail
    go_ret
    exact HO.out _ HB1.out HS.out
  | true =>
    have hsw : swG (lkS subs) l (k : Nat) which = setG l (k : Nat) (q1 : Nat) := by rw [HSW.out]; exact if_pos rfl
    have HS := Lib.hid hsw
    have HST := Lib.hid (refSetG_any (some ⟨gi, oi, none⟩) nl cl l (k : Nat) (q1 : Nat) w1 (HH.out.below HB1.out) HLN.out hn HA.out)
    clear hsw
    go_wp2_with fail
    refine HST.out.mono ?_
    rintro e w2 ⟨v, rfl, hv, hb2⟩
    have HB2 := Lib.hid (HB1.out.trans (hb2.mono HB1.out.size))
    have hz1 := HB1.out.size
    rcases hv with ⟨rfl, _, h2⟩ | ⟨a', c', rfl, ho⟩
    · have H2 := Lib.hid h2
      clear h2 hb2
      go_wp2_with fail
      go_ret
      exact ⟨_, cl, rfl, by rw [HS.out]; exact H2.out, HA.out, HNE.out, HB2.out⟩
    · rw [setG_length, HLN.out] at ho ⊢
      have HOW := Lib.hid ho
      clear ho hb2
      go_wp2_with fail
      go_ret
      refine ⟨a', c', rfl, by rw [HS.out]; exact has_of_owns HOW.out, ?_, ?_, HB2.out⟩
      · obtain ⟨a2, c2, e, _, _, h3⟩ := owns_slice HOW.out
        injection e with e1 e2 e3
        subst e1 e3
        exact h3
      · intro _ p hp
        subst hp
        rcases HOW.out.2 with ⟨hv, _⟩ | ⟨g, cap, cur, hv, hgg, _⟩
        · injection hv with hv _ _
          cases hv
        · injection hv with hv _ _
          injection hv with hv
          subst hv
          show g ≠ g6
          omega
end Go.Proofs.Ytcegoenlajkgfaa
end
section

/- Such a subtable of layer 15, as its bytes tell it. No condition. -/
namespace Go.Proofs.Ytcegoenlajkgfaa
open Go.RowKit Go.Lib

/-- As many lookups as a number of one asks for. -/
def cwX (x : Nat) : Nat := if x = 65535 then 0 else x + 1
def entW (bs : List UInt8) (j : Nat) : Ent := entX (bs.drop (num bs 12 4)) 2 j
/-- As many as the first entries ask for. -/
def cntC (bs : List UInt8) : Nat → Nat
  | 0 => 0
  | j + 1 => max (max (cntC bs j) (cwX (entW bs j).2.2.1)) (cwX (entW bs j).2.2.2)
theorem cntC_mono (bs : List UInt8) {i j : Nat} (h : i ≤ j) : cntC bs i ≤ cntC bs j := by
  induction h with
  | refl => exact Nat.le_refl _
  | step h ih => exact Nat.le_trans ih (by show _ ≤ max (max _ _) _; omega)
theorem cntC_le (bs : List UInt8) : ∀ j, cntC bs j ≤ 65536
  | 0 => by simp [cntC]
  | j + 1 => by
    have ih := cntC_le bs j
    have h := entX_le (bs.drop (num bs 12 4)) 2 j
    show max (max _ (cwX (entW bs j).2.2.1)) (cwX (entW bs j).2.2.2) ≤ _
    have h1 : cwX (entW bs j).2.2.1 ≤ 65535 := by unfold cwX; have : (entW bs j).2.2.1 ≤ 65535 := h.2.2.1; split <;> omega
    have h2 : cwX (entW bs j).2.2.2 ≤ 65535 := by unfold cwX; have : (entW bs j).2.2.2 ≤ 65535 := h.2.2.2; split <;> omega
    omega
theorem cntC_65 (bs : List UInt8) : ∀ j, cntC bs j ≤ 65535
  | 0 => by simp [cntC]
  | j + 1 => by
    have ih := cntC_65 bs j
    have h := entX_le (bs.drop (num bs 12 4)) 2 j
    show max (max _ (cwX (entW bs j).2.2.1)) (cwX (entW bs j).2.2.2) ≤ _
    have h1 : cwX (entW bs j).2.2.1 ≤ 65535 := by unfold cwX; have : (entW bs j).2.2.1 ≤ 65535 := h.2.2.1; split <;> omega
    have h2 : cwX (entW bs j).2.2.2 ≤ 65535 := by unfold cwX; have : (entW bs j).2.2.2 ≤ 65535 := h.2.2.2; split <;> omega
    omega
/-- Each entry's lookups are among them. -/
theorem cntC_in (bs : List UInt8) {j N : Nat} (h : j < N) : ((entW bs j).2.2.1 = 65535 ∨ (entW bs j).2.2.1 < cntC bs N) ∧ ((entW bs j).2.2.2 = 65535 ∨ (entW bs j).2.2.2 < cntC bs N) := by
  have h1 : cntC bs (j + 1) ≤ cntC bs N := cntC_mono bs h
  have h2 : cntC bs (j + 1) = max (max (cntC bs j) (cwX (entW bs j).2.2.1)) (cwX (entW bs j).2.2.2) := rfl
  unfold cwX at h2
  constructor
  · by_cases e : (entW bs j).2.2.1 = 65535
    · exact .inl e
    · rw [if_neg e] at h2
      exact .inr (by omega)
  · by_cases e : (entW bs j).2.2.2 = 65535
    · exact .inl e
    · rw [if_neg e] at h2
      exact .inr (by omega)
/-- Where a lookup stands. -/
def offC (bs : List UInt8) (i : Nat) : Nat := num bs 16 4 + num bs (num bs 16 4 + 4 * i) 4
structure LkC (bs : List UInt8) (glyphs i : Nat) (rs : List RP) : Prop where
  at_ : num bs 16 4 + 4 * i + 4 ≤ bs.length
  off : offC bs i ≤ bs.length
  ok : LkOk (bs.drop (offC bs i)) glyphs 2 rs
theorem LkC.det {bs : List UInt8} {glyphs i : Nat} {r1 r2 : List RP} (h1 : LkC bs glyphs i r1) (h2 : LkC bs glyphs i r2) : r1 = r2 := h1.ok.det h2.ok
structure COk (bs : List UInt8) (glyphs : Nat) (rs : List RP) (S : Nat) (qs : List (List RP)) : Prop where
  mok : MOk bs glyphs 2 rs S
  l20 : 20 ≤ bs.length
  at_ : num bs 16 4 ≤ bs.length
  len : qs.length = cntC bs (needE bs S)
  each : ∀ i q, qs[i]? = some q → LkC bs glyphs i q
theorem COk.det {bs : List UInt8} {glyphs : Nat} {r1 r2 : List RP} {S1 S2 : Nat} {q1 q2 : List (List RP)} (h1 : COk bs glyphs r1 S1 q1) (h2 : COk bs glyphs r2 S2 q2) : r1 = r2 ∧ S1 = S2 ∧ q1 = q2 := by
  obtain ⟨rfl, rfl⟩ := h1.mok.det h2.mok
  refine ⟨rfl, rfl, List.ext_getElem (h1.len.trans h2.len.symm) fun i hi hj => ?_⟩
  exact (h1.each i _ (List.getElem?_eq_getElem hi)).det (h2.each i _ (List.getElem?_eq_getElem hj))
/-- A lookup that isn't there, though it is asked for: then there is no such subtable. -/
theorem COk.miss {bs : List UInt8} {glyphs : Nat} {rs rs' : List RP} {S S' : Nat} {qs : List (List RP)} (h : COk bs glyphs rs S qs) (h2 : MOk bs glyphs 2 rs' S') {i : Nat} (hi : i < cntC bs (needE bs S')) (hno : ∀ q, ¬ LkC bs glyphs i q) : False := by
  obtain ⟨rfl, rfl⟩ := h.mok.det h2
  exact hno _ (h.each i _ (List.getElem?_eq_getElem (by rw [h.len]; exact hi)))
/-- The number of four bytes at a place, or -1. -/
def qAt (bs : List UInt8) (k : Nat) : Int := if k + 4 ≤ bs.length then (num bs k 4 : Nat) else -1
theorem qAt_any (a : Option Addr) (n c : Nat) (bs : List UInt8) (k : Nat) (z : Int) (hz : z = (k : Nat)) (w : World) (h : Has w a (bytesV bs)) (hl : bs.length = n) (hn : n ≤ maxLen) (hk : k ≤ 1000000000000) :
    Calls Try.prog 43 #[.slice a n c, .int .i64 z, .int .i64 4] w fun e w' => e = .returned (.int .i64 (qAt bs k)) ∧ w = w' := by
  subst hz
  unfold qAt
  split
  · rename_i hin
    exact u_in a n c k 4 bs w h hl (by omega) (by omega) hn
  · rename_i hin
    exact u_out a n c 4 (k : Int) w (by omega) (by omega) (by omega) hn
theorem qAt_bound (bs : List UInt8) (k : Nat) : -1 ≤ qAt bs k ∧ qAt bs k ≤ 4294967295 := by
  unfold qAt
  have := num4_lt bs k
  split <;> omega
end Go.Proofs.Ytcegoenlajkgfaa
end
section

/- The document's Read of layer 15. Conditions: bytes as the slice says; sizes. -/
namespace Go.Proofs.Ytcegoenlajkgfaa
open Go.RowKit Go.Lib

theorem HasN.keptO {own : Nat → Nat → Prop} {B : Nat} {w w' : World} {a : Option Addr} {xs : List Value} (h : HasN B w a xs) (hk : KeptO own w w') (hn : ∀ k, B ≤ k → ¬ own k 131) : HasN B w' a xs := by
  have key : ∀ p, a = some p → xs ≠ [] → w'.heap[p.block]? = w.heap[p.block]? := fun p hp hx => by
    obtain ⟨h1, cs, fz, h2⟩ := h.2 hx p hp
    exact hk.2 _ _ _ _ h2 (hn _ h1)
  refine ⟨fun j u hu => ?_, fun hx p hp => ?_⟩
  · obtain ⟨p, hp, hc⟩ := h.1 j u hu
    refine ⟨p, hp, ?_⟩
    have hx : xs ≠ [] := by rintro rfl; simp at hu
    rw [← hc]
    unfold World.cell?
    rw [add_block, key p hp hx]
  · obtain ⟨h1, cs, fz, h2⟩ := h.2 hx p hp
    exact ⟨h1, cs, fz, (key p hp hx).trans h2⟩
/-- A lookup of the list at its own place. -/
structure SubHere (a : Option Addr) (n c : Nat) (bs : List UInt8) (glyphs i : Nat) (s : SubD) : Prop where
  ea : s.a = adv a c (offC bs i)
  en : s.n = n - offC bs i
  ec : s.c = c - offC bs i
  eb : s.bs = bs.drop (offC bs i)
  lk : LkC bs glyphs i s.rs
def ownK (g9 k t : Nat) : Prop := k = g9 ∨ t = 40
def KReadSt (a : Option Addr) (n c : Nat) (bs : List UInt8) (glyphs g9 : Nat) (mc : Value → Array Value) (w V : World) (q : Nat) (wr : World) : Prop :=
  ∃ (subs : List SubD) (aS : Option Addr) (cS : Nat), subs.length = q ∧ wr.heap[g9]? = some (.cells (mc (.slice aS q cS)) 45 (0, 0)) ∧ wr.ownsRow (g9 + 1) 40 2 (.slice aS q cS) q (subsV subs) ∧ (∀ i s, subs[i]? = some s → SubHere a n c bs glyphs i s ∧ HasN (g9 + 1) wr s.a' (encRs s.rs)) ∧ Below w.heap.size w wr ∧ KeptO (ownK g9) V wr
theorem KReadSt.below {a : Option Addr} {n c : Nat} {bs : List UInt8} {glyphs g9 : Nat} {mc : Value → Array Value} {w V : World} {q : Nat} {wr wr' : World} (h : KReadSt a n c bs glyphs g9 mc w V q wr) (hb : Below wr.heap.size wr wr') : KReadSt a n c bs glyphs g9 mc w V q wr' := by
  obtain ⟨subs, aS, cS, h1, h2, h3, h4, h5, h6⟩ := h
  exact ⟨subs, aS, cS, h1, (hb.block _ (Array.getElem?_eq_some_iff.1 h2).1).trans h2, owns_below h3 hb (Nat.le_refl _), fun i s hs => ⟨(h4 i s hs).1, (h4 i s hs).2.below hb⟩, h5.trans (hb.mono h5.size), h6.trans (KeptO.below hb)⟩
theorem KReadSt.rebase {a : Option Addr} {n c : Nat} {bs : List UInt8} {glyphs g9 : Nat} {mc : Value → Array Value} {w V : World} {q : Nat} {wr : World} (h : KReadSt a n c bs glyphs g9 mc w V q wr) : KReadSt a n c bs glyphs g9 mc w wr q wr := by
  obtain ⟨subs, aS, cS, h1, h2, h3, h4, h5, _⟩ := h
  exact ⟨subs, aS, cS, h1, h2, h3, h4, h5, KeptO.refl _ _⟩
theorem KReadSt.kept {a : Option Addr} {n c : Nat} {bs : List UInt8} {glyphs g9 : Nat} {mc : Value → Array Value} {w V : World} {q : Nat} {wr : World} (h : KReadSt a n c bs glyphs g9 mc w V q wr) : KeptO (ownK g9) V wr := by
  obtain ⟨_, _, _, _, _, _, _, _, h6⟩ := h
  exact h6
theorem KReadSt.from {a : Option Addr} {n c : Nat} {bs : List UInt8} {glyphs g9 : Nat} {mc : Value → Array Value} {w V V2 : World} {q : Nat} {wr : World} (h : KReadSt a n c bs glyphs g9 mc w V2 q wr) (hk : KeptO (ownK g9) V V2) : KReadSt a n c bs glyphs g9 mc w V q wr := by
  obtain ⟨subs, aS, cS, h1, h2, h3, h4, h5, h6⟩ := h
  exact ⟨subs, aS, cS, h1, h2, h3, h4, h5, hk.trans h6⟩
/-- One lookup more. -/
theorem KReadSt.more {a : Option Addr} {n c : Nat} {bs : List UInt8} {glyphs g9 : Nat} {mc : Value → Array Value} {w V W W' : World} {q : Nat} {subs : List SubD} {aS aS' : Option Addr} {cS cS' : Nat} (hq : subs.length = q) (s : SubD) (hw9 : w.heap.size ≤ g9)
    (h2 : W.heap[g9]? = some (.cells (mc (.slice aS q cS)) 45 (0, 0))) (h3 : W.ownsRow (g9 + 1) 40 2 (.slice aS q cS) q (subsV subs)) (h4 : ∀ i s, subs[i]? = some s → SubHere a n c bs glyphs i s ∧ HasN (g9 + 1) W s.a' (encRs s.rs)) (h5 : Below w.heap.size w W) (h6 : KeptO (ownK g9) V W)
    (hs : SubHere a n c bs glyphs q s) (hsn : HasN (g9 + 1) W s.a' (encRs s.rs)) (hrow : W'.ownsRow (g9 + 1) 40 2 (.slice aS' (q + 1) cS') (q + 1) (subsV subs ++ s.v)) (hb : Below (g9 + 1) W W') (hg : W.grownBy W' (Value.slice aS q cS).ownBlock) (hmc : ∀ x y, (mc x).setIfInBounds 9 y = mc y) :
    KReadSt a n c bs glyphs g9 mc w V (q + 1) (W'.setCell ⟨g9, 9, none⟩ (.slice aS' (q + 1) cS')) := by
  have hk : KeptO (fun k t => k ≠ g9 ∧ t = 40) W W' := ⟨hg.size, fun k cs t fz h1 ht => by
    by_cases e : k = g9
    · subst e
      exact hb.block _ (Nat.lt_succ_self _)
    · exact (KeptO.grown (own := fun _ t => t = 40) h3 hg (fun _ _ => rfl)).2 k cs t fz h1 (fun h => ht ⟨e, h⟩)⟩
  have h9 : W'.heap[g9]? = some (.cells (mc (.slice aS q cS)) 45 (0, 0)) := (hb.block _ (Nat.lt_succ_self _)).trans h2
  refine ⟨subs ++ [s], aS', cS', by simp [hq], ?_, ?_, ?_, ?_, ?_⟩
  · have := set_heap_at (o := 9) (.slice aS' (q + 1) cS') h9
    rwa [hmc] at this
  · rw [show subsV (subs ++ [s]) = subsV subs ++ s.v by simp [subsV]]
    exact set_owns _ hrow (by
      intro e
      rcases hrow.2 with ⟨hv, _⟩ | ⟨b, cap, cur, hv, hgb, _⟩
      · rw [hv] at e; cases e
      · rw [hv] at e
        injection e with e
        have e : g9 = b := e
        omega)
  · intro i x hx
    rw [List.getElem?_append] at hx
    split at hx
    · obtain ⟨y1, y2⟩ := h4 i x hx
      exact ⟨y1, (y2.keptO hk (fun k _ h => absurd h.2 (by decide))).set (Nat.lt_succ_self _) _⟩
    · rename_i hlt
      have hi : i = q := by
        have := (List.getElem?_eq_some_iff.1 hx).1
        simp at this
        omega
      subst hi
      rw [hq, Nat.sub_self] at hx
      simp at hx
      subst hx
      exact ⟨hs, (hsn.keptO hk (fun k _ h => absurd h.2 (by decide))).set (Nat.lt_succ_self _) _⟩
  · exact (h5.trans ((hb.mono (by omega)))).setCell (p := ⟨g9, 9, none⟩) hw9 _
  · refine h6.trans ⟨by simp; exact hk.1, fun k cs t fz h1 ht => ?_⟩
    rw [set_heap_other _ (fun e => ht (.inl e))]
    exact hk.2 k cs t fz h1 (fun h => ht (.inr h.2))
theorem heap10_at {W : World} {g : Nat} {x0 x1 x2 x3 x4 x5 x6 x7 x8 x9 : Value} {t : TypeId} (h : W.heap[g]? = some (.cells #[x0, x1, x2, x3, x4, x5, x6, x7, x8, x9] t (0, 0))) (v0 v1 v2 v3 v4 v5 v6 v7 v8 v9 : Value) :
    ((((((((((W.setCell ⟨g, 0, none⟩ v0).setCell ⟨g, 1, none⟩ v1).setCell ⟨g, 2, none⟩ v2).setCell ⟨g, 3, none⟩ v3).setCell ⟨g, 4, none⟩ v4).setCell ⟨g, 5, none⟩ v5).setCell ⟨g, 6, none⟩ v6).setCell ⟨g, 7, none⟩ v7).setCell ⟨g, 8, none⟩ v8).setCell ⟨g, 9, none⟩ v9).heap[g]? = some (.cells #[v0, v1, v2, v3, v4, v5, v6, v7, v8, v9] t (0, 0)) := by
  have h := set_heap_at (o := 0) v0 h
  have h := set_heap_at (o := 1) v1 h
  have h := set_heap_at (o := 2) v2 h
  have h := set_heap_at (o := 3) v3 h
  have h := set_heap_at (o := 4) v4 h
  have h := set_heap_at (o := 5) v5 h
  have h := set_heap_at (o := 6) v6 h
  have h := set_heap_at (o := 7) v7 h
  have h := set_heap_at (o := 8) v8 h
  have h := set_heap_at (o := 9) v9 h
  simpa using h
theorem below10 {B : Nat} {w W : World} (h : Below B w W) {g : Nat} (hg : B ≤ g) (v0 v1 v2 v3 v4 v5 v6 v7 v8 v9 : Value) :
    Below B w ((((((((((W.setCell ⟨g, 0, none⟩ v0).setCell ⟨g, 1, none⟩ v1).setCell ⟨g, 2, none⟩ v2).setCell ⟨g, 3, none⟩ v3).setCell ⟨g, 4, none⟩ v4).setCell ⟨g, 5, none⟩ v5).setCell ⟨g, 6, none⟩ v6).setCell ⟨g, 7, none⟩ v7).setCell ⟨g, 8, none⟩ v8).setCell ⟨g, 9, none⟩ v9) := by
  exact ((((((((((h.setCell (p := ⟨g, 0, none⟩) hg v0).setCell (p := ⟨g, 1, none⟩) hg v1).setCell (p := ⟨g, 2, none⟩) hg v2).setCell (p := ⟨g, 3, none⟩) hg v3).setCell (p := ⟨g, 4, none⟩) hg v4).setCell (p := ⟨g, 5, none⟩) hg v5).setCell (p := ⟨g, 6, none⟩) hg v6).setCell (p := ⟨g, 7, none⟩) hg v7).setCell (p := ⟨g, 8, none⟩) hg v8).setCell (p := ⟨g, 9, none⟩) hg v9)
def CReadIs (a : Option Addr) (n c : Nat) (bs : List UInt8) (glyphs : Nat) (w : World) (e : Ending) (w' : World) : Prop :=
  ((∃ rs S qs a' c' aS cS subs, COk bs glyphs rs S qs ∧ subs.map SubD.rs = qs ∧ e = .returned (.tuple #[.agg ((mrefV a n c bs 2 rs S a' c').push (.slice aS subs.length cS)), .bool true]) ∧ MRf a n c bs glyphs 2 rs S a' w' ∧ SubsIs glyphs aS subs w' ∧ ∀ i s, subs[i]? = some s → SubHere a n c bs glyphs i s) ∨
   ((∀ rs S qs, ¬ COk bs glyphs rs S qs) ∧ ∃ a0 n0 c0 i1 i2 i3 i4 i5 i6 a7 n7 c7 a8 n8 c8 a9 n9 c9, e = .returned (.tuple #[.agg #[.slice a0 n0 c0, .int .i64 i1, .int .i64 i2, .int .i64 i3, .int .i64 i4, .int .i64 i5, .int .i64 i6, .slice a7 n7 c7, .slice a8 n8 c8, .slice a9 n9 c9], .bool false]))) ∧ Below w.heap.size w w'
set_option maxRecDepth 100000 in
set_option maxHeartbeats 6400000 in
theorem refcread_none (a : Option Addr) (n c : Nat) (bs : List UInt8) (glyphs : Nat) (zg : Int) (hzg : zg = (glyphs : Nat)) (w : World) (h : Has w a (bytesV bs)) (hl : bs.length = n) (hn : n ≤ c) (hc : c ≤ maxLen) (h20 : n ≤ 4000) (hg1 : 1 ≤ glyphs) (hg2 : glyphs ≤ 65535) (hno : ∀ rs S, ¬ MOk bs glyphs 2 rs S) :
    Calls Try.prog 16 #[.slice a n c, .int .i64 zg] w (CReadIs a n c bs glyphs w) := by
  have hAC := allocC
  have hAF := allocF
  subst hzg
  have HNO := Lib.hid (show ∀ rs S qs, ¬ COk bs glyphs rs S qs from fun rs S qs h => hno rs S h.mok)
  have HRD := Lib.hid (fun W (hW : Below w.heap.size w W) => refread_no a n c bs glyphs 2 (glyphs : Int) 2 rfl rfl W (h.below hW) hl hn hc h20 hg1 hg2 (by decide) hno)
  have HU := Lib.hid (fun W (hW : Below w.heap.size w W) => qAt_any a n c bs 16 16 rfl W (h.below hW) hl (Nat.le_trans hn hc) (by omega))
  have hq := qAt_bound bs 16
  generalize qAt bs 16 = Q at *
  clear h hl hno
  unfold zeroMV at HRD
  unfold CReadIs
  go_enter Try.func16, Try.ntmps16
  go_wp2_with (first
    | (go_at_call 42; (with_reducible refine (HRD.out _ (by exact blw)).mono ?_); rintro e w1 ⟨rfl, hb1⟩; have h1c := bc hb1; have h1f := bf hb1; have h1z := hb1.size; simp only [World.size_alloc] at h1z)
    | (go_at_call 43; (with_reducible refine (HU.out _ (by exact blw)).mono ?_); rintro e wu ⟨rfl, rfl⟩))
  have x4 : w1.heap[w.heap.size]? = some (.cells #[.slice none 0 0, .int .i64 0, .int .i64 0, .int .i64 0, .int .i64 0, .int .i64 0, .int .i64 0, .slice none 0 0, .slice none 0 0, .slice none 0 0] 45 (0, 0)) := (hb1.block _ (by simp)).trans ((heap_push _ _ _).trans (if_pos rfl))
  have y4 : ((w1.alloc (Obj.cells #[.slice none 0 0, .int .i64 0, .int .i64 0, .int .i64 0, .int .i64 0, .int .i64 0, .int .i64 0, .slice none 0 0, .slice none 0 0] 42)).alloc (Obj.cells #[.slice none 0 0, .int .i64 0, .int .i64 0, .int .i64 0, .int .i64 0, .int .i64 0, .int .i64 0, .slice none 0 0, .slice none 0 0, .slice none 0 0] 45)).heap[w.heap.size]? = _ := ((balloc (balloc (brefl w1) _) _).block _ (by omega)).trans x4
  have z4 := heap10_at y4 (.slice none 0 0) (.int .i64 0) (.int .i64 0) (.int .i64 0) (.int .i64 0) (.int .i64 0) (.int .i64 0) (.slice none 0 0) (.slice none 0 0) (.slice none 0 0)
  have q4 := fun o => cell_of_heap z4 o
  have hbw : Below w.heap.size w w1 := blw
  refine bodyPost_ret (v := .tuple #[.agg #[.slice none 0 0, .int .i64 0, .int .i64 0, .int .i64 0, .int .i64 0, .int .i64 0, .int .i64 0, .slice none 0 0, .slice none 0 0, .slice none 0 0], .bool false]) (by simp [results, Try.results16, go_sem, q4]) rfl ?_
  exact ⟨.inr ⟨HNO.out, _, _, _, _, _, _, _, _, _, _, _, _, _, _, _, _, _, _, rfl⟩, below10 (balloc (balloc hbw _) _) (Nat.le_refl _) _ _ _ _ _ _ _ _ _ _⟩
theorem tb_info : (Try.prog.info? 40).map (fun i => (i.zero, i.size, i.bytes)) = some (some (.agg #[.slice none 0 0, .slice none 0 0]), 2, 48) := by kernel_rfl
def subsN (g : Nat) (w : World) : Nat := match w.cell? ⟨g, 9, none⟩ with
  | some (.slice _ n _) => n
  | _ => 0
theorem subsN_is {g : Nat} {w : World} {x0 x1 x2 x3 x4 x5 x6 x7 x8 : Value} {aS : Option Addr} {q cS : Nat} {t : TypeId} (h : w.heap[g]? = some (.cells #[x0, x1, x2, x3, x4, x5, x6, x7, x8, .slice aS q cS] t (0, 0))) : subsN g w = q := by
  unfold subsN
  rw [cell_of_heap h]
  rfl
end Go.Proofs.Ytcegoenlajkgfaa
end
section

/- Laws for a struct of some cells: loaded, stored, made anew, in one step each. Conditions: the block is known whole. -/
namespace Go.Proofs.Ytcegoenlajkgfaa
open Go.RowKit Go.Lib

theorem wpOpVK {P : Program} {w : World} {ops : Array Oper} {rest : List Oper} {o : Oper} {a : Act} {Q : Exit → Act → World → Prop} (hgd : o.guard = none) (v : Value) (w' : World) (hr : (execOp a.eval o).run P w = .ok (.value v) w') (h : wpList P ops Q rest (a.put o.dst v) w') : wpList P ops Q (o :: rest) a w :=
  wpList_plain hgd fun K hK => by
    show o.upon P a K Q ((execOp a.eval o).run P w)
    rw [hr]
    exact hK _ _ h
theorem wpOpUK {P : Program} {w : World} {ops : Array Oper} {rest : List Oper} {o : Oper} {a : Act} {Q : Exit → Act → World → Prop} (hgd : o.guard = none) (w' : World) (hr : (execOp a.eval o).run P w = .ok .skip w') (h : wpList P ops Q rest (a.put o.dst undef) w') : wpList P ops Q (o :: rest) a w :=
  wpList_plain hgd fun K hK => by
    show o.upon P a K Q ((execOp a.eval o).run P w)
    rw [hr]
    exact hK _ _ h
theorem wpAllocK {P : Program} {w : World} {ops : Array Oper} {rest : List Oper} {o : Oper} {a : Act} {Q : Exit → Act → World → Prop} (hgd : o.guard = none) (t : TypeId) (ho : o.op = .alloc t) (zs : Array Value) (hz : ∀ w, (Instr.alloc t true (.tuple #[])).run P w = .ok (.pointer (some ⟨w.heap.size, 0, none⟩)) (w.alloc (.cells zs t)))
    (h : wpList P ops Q rest (a.put o.dst (.pointer (some ⟨w.heap.size, 0, none⟩))) (w.alloc (.cells zs t))) : wpList P ops Q (o :: rest) a w :=
  wpOpVK hgd (.pointer (some ⟨w.heap.size, 0, none⟩)) (w.alloc (.cells zs t)) (by unfold execOp; rw [ho]; simp only [Sem.run_bind, Sem.run_pure, Sem.run_map, hz, Result.andThen]) h
theorem wpStoreK {P : Program} {w : World} {ops : Array Oper} {rest : List Oper} {o : Oper} {a : Act} {Q : Exit → Act → World → Prop} (hgd : o.guard = none) (t : TypeId) (p x : Operand) (ho : o.op = .store t p x) (g : Nat) (c c' : Array Value) (hp : a.eval p = .pointer (some ⟨g, 0, none⟩)) (hx : a.eval x = .agg c') (hg : w.heap[g]? = some (.cells c t (0, 0)))
    (hi : (P.info? t).map (·.size) = some c'.size) (hs : c.size = c'.size) (h1 : c'.all (·.oneCell') = true)
    (h : ∀ w', w'.heap[g]? = some (.cells c' t (0, 0)) → (∀ k, k ≠ g → w'.heap[k]? = w.heap[k]?) → w'.heap.size = w.heap.size → Below g w w' → wpList P ops Q rest (a.put o.dst undef) w') : wpList P ops Q (o :: rest) a w :=
  wpOpUK hgd (w.setRow g c') (by unfold execOp; rw [ho]; simp only [hp, hx, Instr.storeAt, Instr.sureAddr, Sem.run_bind, Sem.run_pure, Sem.run_map, Result.andThen, run_storeVar_row w g t t c c' hg hi hs h1]) (h _ (setRow_heap w g c _ t _ hg) (fun k hk => setRow_other w g k _ hk) (by simp [World.setRow]) (below_setRow (Below.refl _ _) (Nat.le_refl _) _))
/-- Rows and cells that lie elsewhere stay behind a store. -/
theorem owns_else {w w' : World} {base e size n g : Nat} {v : Value} {xs : List Value} (h : w.ownsRow base e size v n xs) (hg : g < base) (hk : ∀ k, k ≠ g → w'.heap[k]? = w.heap[k]?) : w'.ownsRow base e size v n xs := by
  refine ⟨h.1, ?_⟩
  rcases h.2 with q | ⟨q, cap, cur, hv, hq, hh, r⟩
  · exact .inl q
  · exact .inr ⟨q, cap, cur, hv, hq, by rw [hk q (by omega)]; exact hh, r⟩
theorem has_else {w w' : World} {a : Option Addr} {xs : List Value} {g : Nat} (h : Has w a xs) (hne : ∀ p, a = some p → xs ≠ [] → p.block ≠ g) (hk : ∀ k, k ≠ g → w'.heap[k]? = w.heap[k]?) : Has w' a xs := by
  intro j u hu
  obtain ⟨p, hp, hc⟩ := h j u hu
  refine ⟨p, hp, ?_⟩
  rw [← hc]
  unfold World.cell?
  rw [add_block, hk p.block (hne p hp (by rintro rfl; simp at hu))]
theorem hasN_else {B : Nat} {w w' : World} {a : Option Addr} {xs : List Value} {g : Nat} (h : HasN B w a xs) (hg : g < B) (hk : ∀ k, k ≠ g → w'.heap[k]? = w.heap[k]?) : HasN B w' a xs :=
  ⟨has_else h.1 (fun p hp hx => by have := (h.2 hx p hp).1; omega) hk, fun hx p hp => by obtain ⟨h1, cs, fz, h2⟩ := h.2 hx p hp; exact ⟨h1, cs, fz, (hk _ (by omega)).trans h2⟩⟩
theorem alloc06 (w : World) : (Instr.alloc 40 true (.tuple #[])).run Try.prog w = .ok (.pointer (some ⟨w.heap.size, 0, none⟩)) (w.alloc (.cells #[.slice none 0 0, .slice none 0 0] 40)) := by kernel_rfl
theorem size06 : (Try.prog.info? 40).map (·.size) = some 2 := by kernel_rfl
end Go.Proofs.Ytcegoenlajkgfaa
end
