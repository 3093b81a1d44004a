/- Joined from: CWrite XRun XRead CEight DBits DSpec KSwap KSpec CMap CList CAsk. -/
import Derived.Test.YtcegoenlajkgfaaJ12
import Derived.Test.YtcegoenlajkgfaaJ04
import Derived.Test.YtcegoenlajkgfaaJ03
import Derived.Test.YtcegoenlajkgfaaJ13
import Derived.Test.YtcegoenlajkgfaaJ08
import Derived.Test.YtcegoenlajkgfaaJ01
import Derived.Test.YtcegoenlajkgfaaJ11
import Derived.Maps.OwnOps
import Derived.Maps.OwnSet
section

/- The bytes of a subtable of layer 15 as its law writes them: swashlaw15.Write. Conditions: a machine's plan and lookups in memory; sizes. -/
namespace Go.Proofs.Ytcegoenlajkgfaa
open Go.RowKit Go.Lib

/-- Two rows of bytes that lie apart, as slots. -/
def Two2 (B : Nat) (x1 x2 : List UInt8) (v1 v2 : Value) (w : World) : Prop := ∃ a1 c1 a2 c2, v1 = .slice a1 x1.length c1 ∧ v2 = .slice a2 x2.length c2 ∧ Two B w a1 x1.length c1 x1 a2 x2.length c2 x2
theorem Two2.swap {B : Nat} {x1 x2 : List UInt8} {v1 v2 : Value} {w : World} (h : Two2 B x1 x2 v1 v2 w) : Two2 B x2 x1 v2 v1 w := by
  obtain ⟨a1, c1, a2, c2, h1, h2, h3⟩ := h
  exact ⟨a2, c2, a1, c1, h2, h1, h3.swap⟩
theorem Two2.putA {B v size : Nat} (z y : Int) (hz : z = (v : Nat)) (hy : y = (size : Nat)) {x1 x2 : List UInt8} {v1 v2 : Value} {w : World} (h : Two2 B x1 x2 v1 v2 w) (hB : B ≤ w.heap.size) (hv : v < 9223372036854775808) (hn : x1.length ≤ 1000000000) (hs : size ≤ 8) :
    Calls Try.prog 39 #[v1, .int .i64 z, .int .i64 y] w fun e w' => ∃ s, e = .returned s ∧ Two2 B (x1 ++ beN size v) x2 s v2 w' ∧ Below B w w' := by
  obtain ⟨a1, c1, a2, c2, rfl, rfl, h3⟩ := h
  refine (put_z B a1 x1.length c1 v size z y hz hy x1 w h3.o1 hB hv hn hs).mono ?_
  rintro e w' ⟨a', c', rfl, g2, _, _, _, g6, _, g8⟩
  have hl : (x1 ++ beN size v).length = x1.length + size := by rw [List.length_append, beN_length]
  exact ⟨_, rfl, ⟨a', c', a2, c2, by rw [hl], rfl, by rw [hl]; exact h3.put1 g8 g2⟩, g6⟩
theorem Two2.putB {B v size : Nat} (z y : Int) (hz : z = (v : Nat)) (hy : y = (size : Nat)) {x1 x2 : List UInt8} {v1 v2 : Value} {w : World} (h : Two2 B x1 x2 v1 v2 w) (hB : B ≤ w.heap.size) (hv : v < 9223372036854775808) (hn : x2.length ≤ 1000000000) (hs : size ≤ 8) :
    Calls Try.prog 39 #[v2, .int .i64 z, .int .i64 y] w fun e w' => ∃ s, e = .returned s ∧ Two2 B x1 (x2 ++ beN size v) v1 s w' ∧ Below B w w' := by
  refine (h.swap.putA z y hz hy hB hv hn hs).mono ?_
  rintro e w' ⟨s, rfl, g1, g2⟩
  exact ⟨s, rfl, g1.swap, g2⟩
/-- A lookup of glyphs from 0 on, in a row. -/
def vals16 (l : List Nat) : List UInt8 := l.flatMap fun x => beN 2 x
def sub8 (l : List Nat) : List UInt8 := beN 2 8 ++ beN 2 0 ++ beN 2 l.length ++ vals16 l
def lksB (subs : List (List Nat)) : List UInt8 := subs.flatMap sub8
def offsB (m : Nat) (subs : List (List Nat)) (j : Nat) : List UInt8 := (List.range j).flatMap fun i => beN 4 (4 * m + (lksB (subs.take i)).length)
def ctxB (p : PlanL) (subs : List (List Nat)) : List UInt8 :=
  splice (planB p 2 4 ++ offsB subs.length subs subs.length) 16 (beN 4 (planB p 2 4).length) ++ lksB subs
theorem vals16_length (l : List Nat) : (vals16 l).length = 2 * l.length := by
  induction l with
  | nil => rfl
  | cons x l ih => simp only [vals16, List.flatMap_cons, List.length_append, beN_length, List.length_cons] at *; omega
theorem sub8_length (l : List Nat) : (sub8 l).length = 6 + 2 * l.length := by
  simp only [sub8, List.length_append, beN_length, vals16_length]
theorem vals16_snoc (l : List Nat) (q : Nat) (h : q < l.length) : vals16 (l.take (q + 1)) = vals16 (l.take q) ++ beN 2 (l.getD q 0) := by
  unfold vals16
  rw [List.take_add_one, List.flatMap_append, List.getElem?_eq_getElem h, List.getD_eq_getElem?_getD, List.getElem?_eq_getElem h]
  simp
theorem lksB_snoc (subs : List (List Nat)) (j : Nat) (r : List Nat) (h : subs[j]? = some r) : lksB (subs.take (j + 1)) = lksB (subs.take j) ++ sub8 r := by
  unfold lksB
  rw [List.take_add_one, List.flatMap_append, h]
  simp
theorem offsB_snoc (m : Nat) (subs : List (List Nat)) (j : Nat) : offsB m subs (j + 1) = offsB m subs j ++ beN 4 (4 * m + (lksB (subs.take j)).length) := by
  unfold offsB
  rw [List.range_succ, List.flatMap_append]
  simp
theorem offsB_length (m : Nat) (subs : List (List Nat)) : ∀ j, (offsB m subs j).length = 4 * j
  | 0 => rfl
  | j + 1 => by rw [offsB_snoc, List.length_append, offsB_length m subs j, beN_length]; omega
theorem lksB_le (subs : List (List Nat)) (h : ∀ r ∈ subs, r.length ≤ 100) : (lksB subs).length ≤ 206 * subs.length := by
  induction subs with
  | nil => simp [lksB]
  | cons r l ih =>
    have h1 := h r (by simp)
    have h2 := ih (fun x hx => h x (by simp [hx]))
    simp only [lksB, List.flatMap_cons, List.length_append, List.length_cons, sub8_length] at *
    omega
theorem lksB_take (subs : List (List Nat)) (h : ∀ r ∈ subs, r.length ≤ 100) (j : Nat) : (lksB (subs.take j)).length ≤ 206 * subs.length := by
  have := lksB_le (subs.take j) (fun r hr => h r (List.mem_of_mem_take hr))
  rw [List.length_take] at this
  omega
theorem planB_len1 (p : PlanL) (hC : p.cls.length ≤ 1000) (hR : p.rows.length ≤ 1000) (hE : p.ents.length ≤ 1000) : 26 ≤ (planB p 2 4).length ∧ (planB p 2 4).length ≤ 100000 := by
  have h1 : (planB p 2 4).length = 22 + 4 + 2 * p.cls.length + 2 * (p.rows.length * p.n) + p.ents.length * 8 := by
    simp only [planB, ofB, List.length_append, beN_length, List.length_replicate, clsB_length, rowsPB_length, entsPB_length 2 _ (by decide)]
    omega
  have h2 : p.rows.length * p.n ≤ 1000 * 11 := Nat.mul_le_mul hR (by unfold PlanL.n; omega)
  omega
/-- Lookups' numbers in memory. -/
structure SubsHas (w : World) (aS : Option Addr) (subs : List (List Nat)) (sv : List Value) : Prop where
  has : Has w aS sv
  len : sv.length = subs.length
  each : ∀ (i : Nat) (r : List Nat), subs[i]? = some r → ∃ (ai : Option Addr) (ci : Nat), sv[i]? = some (Value.slice ai r.length ci) ∧ Has w ai (u16V r)
theorem splice_take {α : Type} (L cs : List α) (o n : Nat) (h : o + cs.length ≤ n) (hn : n ≤ L.length) : (splice L o cs).take n = splice (L.take n) o cs := by
  unfold splice
  rw [List.take_append, List.take_append, List.take_take, List.take_take, List.length_take, Nat.min_eq_left (by omega : o ≤ L.length), Nat.min_eq_right (by omega : o ≤ n), Nat.min_eq_left (by omega : o ≤ n), List.take_of_length_le (by omega : cs.length ≤ n - o), List.drop_take, Nat.sub_sub]
/-- 'copy' into the middle of a row of the call's own. -/
theorem wpCopyRow {P : Program} {w : World} {o : Oper} {a : Act} {K : Act → World → Prop} {Q : Exit → Act → World → Prop} (d s : Operand) (dT sT : TypeId)
    (ho : o.op = .call { callee := .builtin .copy, args := #[d, s], argTypes := #[dT, sT] }) (elem : TypeId) (hu : P.underlying dT = some (.slice elem)) (hsz : (P.info? elem).map (·.size) = some 1)
    (base g n c : Nat) (xs : List Value) (hown : w.ownsRow base elem 1 (.slice (some ⟨g, 0, none⟩) n c) n xs)
    (off dLen dCap : Nat) (ad : Addr) (sLen sCap : Nat) (hd : a.eval d = .slice (some ⟨g, off, none⟩) dLen dCap) (hs : a.eval s = .slice (some ad) sLen sCap)
    (cs : List Value) (hn : cs.length = Nat.min sLen dLen * 1) (hsrc : ∀ j v, cs[j]? = some v → w.cell? (ad.add j) = some v) (hfit : off + cs.length ≤ n) (h1 : ∀ v ∈ cs, v.oneCell' = true)
    (h : ∀ w', w'.ownsRow base elem 1 (.slice (some ⟨g, 0, none⟩) n c) n (splice xs off cs) → (∀ k, k ≠ g → w'.heap[k]? = w.heap[k]?) → w'.heap.size = w.heap.size → Below g w w' → K (a.put o.dst (goInt (Nat.min sLen dLen))) w') : o.wp P a w K Q := by
  rcases hown.2 with ⟨hv, _⟩ | ⟨b, cap, cur, hv, hg, hh, hnc, hm, hcs, hx⟩
  · cases hv
  · injection hv with e1 _ e3
    injection e1 with e1
    injection e1 with e1 _ _
    subst e1 e3
    have hl : xs.length = n := by have := hown.1; omega
    refine wpCopyO d s dT sT ho elem 1 hu hsz g off dLen dCap ad sLen sCap hd hs cur elem hh cs hn hsrc (by omega) h1 fun w' g1 g2 g3 g4 => h w' ⟨?_, .inr ⟨g, c, _, rfl, hg, g1, hnc, hm, ?_, ?_⟩⟩ g2 g3 g4
    · rw [length_splice xs off cs (by omega), hl]; omega
    · rw [List.size_toArray, length_splice cur.toList off cs (by rw [Array.length_toList (xs := cur)]; omega), Array.length_toList (xs := cur), hcs]
    · rw [Nat.mul_one] at hx ⊢
      rw [← hx]
      exact splice_take _ cs off n (by omega) (by rw [Array.length_toList (xs := cur)]; omega)
theorem u8_one : (Try.prog.info? 5).map (·.size) = some 1 := by kernel_rfl
theorem Two2.first {B : Nat} {x1 x2 : List UInt8} {v1 v2 : Value} {w : World} (h : Two2 B x1 x2 v1 v2 w) : ∃ a c, v1 = .slice a x1.length c ∧ Two2 B x1 x2 (.slice a x1.length c) v2 w := by
  obtain ⟨a1, c1, a2, c2, rfl, rfl, h3⟩ := h
  exact ⟨a1, c1, rfl, a1, c1, a2, c2, rfl, rfl, h3⟩
theorem owns_some {w : World} {base e size n c : Nat} {a : Option Addr} {xs : List Value} (h : w.ownsRow base e size (.slice a n c) n xs) (h0 : 0 < n) : ∃ g, a = some ⟨g, 0, none⟩ ∧ base ≤ g ∧ g < w.heap.size := by
  rcases h.2 with ⟨hv, h1⟩ | ⟨g, _, _, hv, hg, hh, _⟩
  · omega
  · injection hv with hv _ _
    exact ⟨g, hv, hg, (Array.getElem?_eq_some_iff.1 hh).1⟩
theorem bytesV_splice (X D : List UInt8) (o : Nat) : splice (bytesV X) o (bytesV D) = bytesV (splice X o D) := by
  simp [splice, bytesV, List.map_take, List.map_drop]
set_option maxRecDepth 100000 in
set_option maxHeartbeats 6400000 in
theorem write15_any (p : PlanL) (aC aR aE : Option Addr) (rv : List Value) (cC cR cE : Nat) (aS : Option Addr) (nS cS : Nat) (subs : List (List Nat)) (sv : List Value) (w : World) (h : PlanHas w p aC aR rv aE) (hC : p.cls.length ≤ 1000) (hR : p.rows.length ≤ 1000) (hE : p.ents.length ≤ 1000) (hwf : ∀ e ∈ p.ents, wfI e.1 ∧ wfI e.2.1 ∧ wfI e.2.2.1 ∧ wfI e.2.2.2)
    (hS : SubsHas w aS subs sv) (hnS : subs.length = nS) (hn1 : nS ≤ 100) (hlen : ∀ r ∈ subs, r.length ≤ 100) (h16 : ∀ r ∈ subs, ∀ x ∈ r, x ≤ 65535) :
    Calls Try.prog 14 #[.agg #[.slice aC p.cls.length cC, .slice aR p.rows.length cR, .slice aE p.ents.length cE, .int .u8 (p.wide.toNat : Nat)], .slice aS nS cS] w fun e w' => ∃ a' c', e = .returned (.slice a' (ctxB p subs).length c') ∧ w'.ownsRow w.heap.size 5 1 (.slice a' (ctxB p subs).length c') (ctxB p subs).length (bytesV (ctxB p subs)) ∧ (ctxB p subs).length ≤ c' ∧ c' ≤ maxLen ∧ (a' = none → c' = 0) ∧ Below w.heap.size w w' := by
  have hAC := allocC
  have hAF := allocF
  have HW := Lib.hid (fun W (hW : Below w.heap.size w W) => write_any p 2 4 2 4 rfl rfl aC aR aE rv cC cR cE W (h.below hW) hC hR hE (by omega) (by decide) hwf)
  have hL1 := planB_len1 p hC hR hE
  have hX1 := fun j => lksB_take subs hlen j
  have HSH := Lib.hid hS
  have HLEN := Lib.hid hlen
  have H16 := Lib.hid h16
  have HNS := Lib.hid hnS
  have HCB := Lib.hid (show ctxB p subs = splice (planB p 2 4 ++ offsB nS subs nS) 16 (beN 4 (planB p 2 4).length) ++ lksB subs from by unfold ctxB; rw [hnS])
  have HOL := Lib.hid (fun j => offsB_length nS subs j)
  rw [hnS] at hX1
  generalize planB p 2 4 = P at *
  generalize p.cls.length = nC at *
  generalize p.rows.length = nR at *
  generalize p.ents.length = nE at *
  generalize (p.wide.toNat : Int) = wd at *
  obtain ⟨N, hN⟩ : ∃ N, N = P.length := ⟨_, rfl⟩
  rw [← hN] at HW hL1 HCB
  have HN := Lib.hid hN
  clear h hS hlen h16 hnS hN hwf hC hR hE
  go_enter Try.func14, Try.ntmps14
  go_wp2_with (go_at_call 40; (with_reducible refine (HW.out _ (by exact blw)).mono ?_); rintro e w1 ⟨a1, c1, rfl, ho, k1, k2, k3, hb1⟩; have HO1 := Lib.hid (owns_mono ho (show w.heap.size ≤ _ from by simp only [World.size_alloc]; omega)); have HB1 := Lib.hid (show Below w.heap.size w w1 from by exact blw); clear ho k1 k2 k3 hb1)
  have hz1 := HB1.out.size
  have HT1 := Lib.hid (show Two2 w.heap.size (P ++ offsB nS subs 0) (lksB (subs.take 0)) (.slice a1 N c1) (.slice none 0 0) w1 from ⟨a1, c1, none, 0, by simp [offsB, HN.out], by simp [lksB], by
    have e1 : P ++ offsB nS subs 0 = P := by simp [offsB]
    rw [e1, ← HN.out]
    exact ⟨HO1.out, by simp only [lksB, List.take_zero, List.flatMap_nil, List.length_nil]; exact World.ownsRow_nil _ _ _ _, fun p q _ h => by cases h⟩⟩)
  clear HO1
  go_loopw [5, 7, 18] (fun b lk i wr => ∃ j : Nat, j ≤ nS ∧ i = .int .i64 (j : Nat) ∧ Two2 w.heap.size (P ++ offsB nS subs j) (lksB (subs.take j)) b lk wr ∧ Below w.heap.size w wr) (fun _ _ i _ => nS - (Go.RowKit.intOf i).toNat)
  case atStart => exact ⟨0, Nat.zero_le _, rfl, HT1.out, HB1.out⟩
  case round =>
    obtain ⟨j, hj, rfl, ht, hb⟩ := hrel
    rename World => wr
    have HB := Lib.hid hb
    have hzr := hb.size
    have hjl := hX1 j
    have hol : (P ++ offsB nS subs j).length = N + 4 * j := by rw [List.length_append, HOL.out, ← HN.out]
    obtain ⟨aL, cL, rfl, ht2⟩ := ht.swap.first
    have HT := Lib.hid ht2.swap
    clear ht ht2 hb
    by_cases hlt : j < nS
    · obtain ⟨r, hr⟩ : ∃ r, subs[j]? = some r := ⟨_, List.getElem?_eq_getElem (by rw [HNS.out]; exact hlt)⟩
      obtain ⟨ai, ci, hv, hrb⟩ := HSH.out.each j r hr
      obtain ⟨bR, oR, hbR, hblR, hcell⟩ := (HSH.out.has.below HB.out).get (by rw [HSH.out.len, HNS.out]; omega)
      have e0 := hcell j _ hv
      have HSN := Lib.hid (lksB_snoc subs j r hr)
      have HOS := Lib.hid (show P ++ offsB nS subs (j + 1) = P ++ offsB nS subs j ++ beN 4 (4 * nS + (lksB (subs.take j)).length) from by rw [offsB_snoc, List.append_assoc])
      have hrm := HLEN.out r (List.mem_of_getElem? hr)
      have HR16 := Lib.hid (H16.out r (List.mem_of_getElem? hr))
      have HRB := Lib.hid hrb
      have hsl : (sub8 r).length = 6 + 2 * r.length := sub8_length r
      have HS8 := Lib.hid (show sub8 r = beN 2 8 ++ beN 2 0 ++ beN 2 r.length ++ vals16 r from rfl)
      subst hbR
      clear hcell hv hrb hr
      generalize lksB (subs.take j) = X at *
      obtain ⟨XL, hXL⟩ : ∃ XL, XL = X.length := ⟨_, rfl⟩
      rw [← hXL] at hjl HT HOS ⊢
      have HXL := Lib.hid hXL
      generalize P ++ offsB nS subs j = Y at *
      generalize hrl : r.length = rl at *
      have HRL := Lib.hid hrl
      clear hrl hXL
      have HP1 := Lib.hid (Two2.putA (v := 4 * nS + XL) (size := 4) (4 * (nS : Int) + (XL : Int)) 4 (by omega) rfl HT.out hzr (by omega) (by omega) (by decide))
      go_wp2_with (first
        | (go_at_call 39; (with_reducible refine HP1.out.mono ?_); rintro e w2 ⟨s2, rfl, ht2, hb2⟩; have hz2 := Nat.le_trans hzr hb2.size; have HB2 := Lib.hid (HB.out.trans hb2); have HP2 := Lib.hid (Two2.putB (v := 8) (size := 2) 8 2 rfl rfl ht2 (by exact hz2) (by omega) (by rw [← HXL.out]; omega) (by decide)); clear ht2 hb2)
        | (go_at_call 39; (with_reducible refine HP2.out.mono ?_); rintro e w3 ⟨s3, rfl, ht3, hb3⟩; have hz3 := Nat.le_trans hz2 hb3.size; have HB3 := Lib.hid (HB2.out.trans hb3); have HP3 := Lib.hid (Two2.putB (v := 0) (size := 2) 0 2 rfl rfl ht3 (by exact hz3) (by omega) (by rw [List.length_append, beN_length, ← HXL.out]; omega) (by decide)); clear ht3 hb3)
        | (go_at_call 39; (with_reducible refine HP3.out.mono ?_); rintro e w4 ⟨s4, rfl, ht4, hb4⟩; have hz4 := Nat.le_trans hz3 hb4.size; have HB4 := Lib.hid (HB3.out.trans hb4); have HP4 := Lib.hid (Two2.putB (v := rl) (size := 2) (rl : Int) 2 rfl rfl ht4 (by exact hz4) (by omega) (by rw [List.length_append, List.length_append, beN_length, beN_length, ← HXL.out]; omega) (by decide)); clear ht4 hb4)
        | (go_at_call 39; (with_reducible refine HP4.out.mono ?_); rintro e w5 ⟨s5, rfl, ht5, hb5⟩; have HB5 := Lib.hid (HB4.out.trans hb5); have HT5 := Lib.hid ht5; clear ht5 hb5))
      go_loopw [7, 38] (fun lk i wu => ∃ q : Nat, q ≤ rl ∧ i = .int .i64 (q : Nat) ∧ Two2 w.heap.size (Y ++ beN 4 (4 * nS + XL)) (X ++ beN 2 8 ++ beN 2 0 ++ beN 2 rl ++ vals16 (r.take q)) s2 lk wu ∧ Below w.heap.size w wu) (fun _ i _ => rl - (Go.RowKit.intOf i).toNat)
      case atStart => exact ⟨0, Nat.zero_le _, rfl, by have := HT5.out; simpa [vals16] using this, HB5.out⟩
      case round =>
        obtain ⟨q, hq, rfl, ht, hb⟩ := hrel
        rename World => wu
        have HBU := Lib.hid hb
        have hzu := hb.size
        by_cases hlq : q < rl
        · have hHr := HRB.out.below hb
          obtain ⟨bI, oI, hbI, hblI, hcI⟩ := hHr.get (by rw [u16V_length, HRL.out]; omega)
          have e1 := hcI q _ (u16V_get r q (by rw [HRL.out]; exact hlq))
          have hx : r.getD q 0 ≤ 65535 := HR16.out _ (by rw [List.getD_eq_getElem?_getD, List.getElem?_eq_getElem (by rw [HRL.out]; exact hlq)]; exact List.getElem_mem _)
          have HVS := Lib.hid (vals16_snoc r q (by rw [HRL.out]; exact hlq))
          have hvl : (X ++ beN 2 8 ++ beN 2 0 ++ beN 2 rl ++ vals16 (r.take q)).length ≤ 100000 := by simp only [List.length_append, beN_length, vals16_length, List.length_take, ← HXL.out]; omega
          generalize r.getD q 0 = x at *
          have hc1 : IntKind.i64.wrap ((x : Nat) : Int) = (x : Int) := IntWalk.i64_in _ (by omega)
          have HP6 := Lib.hid (Two2.putB (v := x) (size := 2) (x : Int) 2 rfl rfl ht (by exact hzu) (by omega) (by omega) (by decide))
          subst hbI
          clear hcI hHr ht hb hvl
          go_wp2_with (first | (go_at_call 39; (with_reducible refine HP6.out.mono ?_); rintro e w6 ⟨s6, rfl, ht6, hb6⟩; have HT6 := Lib.hid ht6; have HB6 := Lib.hid (HBU.out.trans hb6); clear ht6 hb6))
          go_roundw
          case rel => exact ⟨q + 1, hlq, by go_num, by rw [HVS.out, ← List.append_assoc]; exact HT6.out, HB6.out⟩
          case measure => simp [Go.RowKit.intOf]; omega
        · obtain rfl : rl = q := by omega
          have HTU := Lib.hid ht
          clear ht hb
          go_wp2_with fail
          go_roundw
          case rel => exact ⟨j + 1, hlt, by go_num, by rw [HSN.out, HS8.out, HOS.out]; simp only [← List.append_assoc]; have := HTU.out; rwa [List.take_of_length_le (by rw [HRL.out]; exact Nat.le_refl _)] at this, HBU.out⟩
          case measure => simp [Go.RowKit.intOf]; omega
    · obtain rfl : nS = j := by omega
      have ht := HT.out
      rw [show subs.take nS = subs from List.take_of_length_le (by rw [HNS.out]; exact Nat.le_refl _)] at ht hjl
      obtain ⟨ab, cb, rfl, ht2⟩ := ht.first
      rw [show subs.take nS = subs from List.take_of_length_le (by rw [HNS.out]; exact Nat.le_refl _)] at *
      obtain ⟨a1', c1', a2', c2', e1, e2, htw⟩ := ht2
      rw [hol] at e1 htw
      injection e1 with e11 _ e12
      injection e2 with e21 _ e22
      subst e11 e12 e21 e22
      obtain ⟨_, _, e3, kb1, kb2, kb3⟩ := owns_slice htw.o1
      cases e3
      obtain ⟨_, _, e4, kl1, kl2, kl3⟩ := owns_slice htw.o2
      cases e4
      obtain ⟨LL, hLL⟩ : ∃ LL, LL = (lksB subs).length := ⟨_, rfl⟩
      rw [← hLL] at hjl htw kl1
      rw [hol, ← hLL]
      obtain ⟨gb, rfl, hgb1, hgb2⟩ := owns_some htw.o1 (by omega)
      have HTW := Lib.hid htw
      have HKL := Lib.hid kl3
      have HBL := Lib.hid hLL
      have HPN := Lib.hid (fun W => put_zz W.heap.size none 0 0 N 4 4 (N : Int) 4 rfl rfl rfl [] W (World.ownsRow_nil _ _ _ _) (Nat.le_refl _) (by omega) (by omega) (by omega))
      have HDL := Lib.hid (show (beN 4 N).length = 4 from beN_length 4 N)
      obtain ⟨M, hM⟩ : ∃ M, M = N + 4 * nS := ⟨_, rfl⟩
      rw [← hM] at HTW ⊢
      rw [← hM] at kb1
      have hM20 : 20 ≤ M := by omega
      have hMb : M ≤ 100400 := by omega
      have HM := Lib.hid hM
      have HPM := Lib.hid (hol.trans hM.symm)
      clear htw hLL hol HT ht kb3 kl3 hM
      go_wp2_with fail
      refine wp_region_last (.step 0 (.step 1 (.step 2 (.step 3 (.step 4 .nil))))) 4 (by kernel_rfl) (by kernel_rfl) (by kernel_rfl) (by kernel_rfl) (by kernel_rfl) (by intro _ _ d_ _ _ h_; cases d_ <;> first | exact h_ | (dsimp +zetaDelta only at h_ ⊢; exact h_)) (fun w' => ∃ p : Wld wr [], w' = p.val) (wld_start _ _) ?_
      have hG_ := @wldC wr
      (refine z_quiet (by simp only [List.getElem?_toArray, List.getElem?_cons_succ, List.getElem?_cons_zero]; rfl) (by rfl) (by rfl) (fun K_ hK_ => ?_); go_big_quiet_op; refine hK_ _ ?_; clear hK_ K_)
      (refine z_quiet (by simp only [List.getElem?_toArray, List.getElem?_cons_succ, List.getElem?_cons_zero]; rfl) (by rfl) (by rfl) (fun K_ hK_ => ?_); go_big_quiet_op; refine hK_ _ ?_; clear hK_ K_)
      (refine z_quiet (by simp only [List.getElem?_toArray, List.getElem?_cons_succ, List.getElem?_cons_zero]; rfl) (by rfl) (by rfl) (fun K_ hK_ => ?_); go_big_quiet_op; refine hK_ _ ?_; clear hK_ K_)
      (refine z_run (by simp only [List.getElem?_toArray, List.getElem?_cons_succ, List.getElem?_cons_zero]; rfl) (by rfl) (by rfl) (fun K_ hK_ => ?_); have HK_ := Lib.hid hK_; clear hK_; (first | ((refine wpCopyRow _ _ 22 22 rfl 5 Try.underlying22 u8_one w.heap.size gb M cb (bytesV (P ++ offsB nS subs nS)) HTW2.out.o1 16 4 _ ⟨gd, 0, none⟩ 4 _ rfl rfl (bytesV (beN 4 N)) (by rw [bytesV_length, HDL.out]; rfl) (fun j v hj => by obtain ⟨p, hp, hc⟩ := HD2.out j v hj; cases hp; exact hc) (by rw [bytesV_length, HDL.out]; omega) (bytesV_one _) ?_; intro w3 ho3 hk3 hz3 hb3; rw [bytesV_splice] at ho3; have HO3 := Lib.hid ho3; have HK3 := Lib.hid (show ∀ k, k ≠ gb → w3.heap[k]? = w2.heap[k]? from hk3); have HZ3 := Lib.hid (show w3.heap.size = w2.heap.size from hz3); have HB3 := Lib.hid (show Below w.heap.size w w3 from HB2.out.trans (Below.mono hb3 hgb1)); clear ho3 hk3 hz3 hb3)) | (go_wp2_with (first | (go_at_call 39; (with_reducible refine (HPN.out _).mono ?_); rintro e w2 ⟨a2, c2, rfl, ho, _, _, _, hb2, _⟩; obtain ⟨gd, rfl, _, _⟩ := owns_some ho (by decide); have HD2 := Lib.hid (has_of_owns ho); have hbr : Below wr.heap.size wr w2 := (by exact blw); have HTW2 := Lib.hid (HTW.out.below hbr); have HB2 := Lib.hid (HB.out.trans (hbr.mono hzr)); clear ho)))); refine HK_.out _ _ (wld_ofA) ?_; clear HK_)
      (refine z_last (by simp only [List.getElem?_toArray, List.getElem?_cons_succ, List.getElem?_cons_zero]; rfl) (by rfl) (by rfl) (by rfl) (fun K_ hK_ => ?_); have HK_ := Lib.hid hK_; clear hK_; (first | ((refine wpCopyRow _ _ 22 22 rfl 5 Try.underlying22 u8_one w.heap.size gb M cb (bytesV (P ++ offsB nS subs nS)) HTW2.out.o1 16 4 _ ⟨gd, 0, none⟩ 4 _ rfl rfl (bytesV (beN 4 N)) (by rw [bytesV_length, HDL.out]; rfl) (fun j v hj => by obtain ⟨p, hp, hc⟩ := HD2.out j v hj; cases hp; exact hc) (by rw [bytesV_length, HDL.out]; omega) (bytesV_one _) ?_; intro w3 ho3 hk3 hz3 hb3; rw [bytesV_splice] at ho3; have HO3 := Lib.hid ho3; have HK3 := Lib.hid (show ∀ k, k ≠ gb → w3.heap[k]? = w2.heap[k]? from hk3); have HZ3 := Lib.hid (show w3.heap.size = w2.heap.size from hz3); have HB3 := Lib.hid (show Below w.heap.size w w3 from HB2.out.trans (Below.mono hb3 hgb1)); clear ho3 hk3 hz3 hb3)) | (go_wp2_with (first | (go_at_call 39; (with_reducible refine (HPN.out _).mono ?_); rintro e w2 ⟨a2, c2, rfl, ho, _, _, _, hb2, _⟩; obtain ⟨gd, rfl, _, _⟩ := owns_some ho (by decide); have HD2 := Lib.hid (has_of_owns ho); have hbr : Below wr.heap.size wr w2 := (by exact blw); have HTW2 := Lib.hid (HTW.out.below hbr); have HB2 := Lib.hid (HB.out.trans (hbr.mono hzr)); clear ho)))); refine HK_.out _ _ ?_; clear HK_)
      refine z_nil ?_
      clear hG_
      have HLK := Lib.hid (show Has w3 aL (bytesV (lksB subs)) from by
        have h2 := has_of_owns HTW2.out.o2
        intro j u hu
        obtain ⟨p, hp, hc⟩ := h2 j u hu
        refine ⟨p, hp, ?_⟩
        rw [← hc]
        unfold World.cell?
        rw [add_block, HK3.out p.block (fun e => HTW2.out.f _ _ rfl hp e.symm)])
      have HLT := Lib.hid (show (ctxB p subs).length = M + LL from by
        rw [HCB.out, List.length_append, length_splice _ 16 _ (by rw [HDL.out, HPM.out]; omega), HPM.out, HBL.out])
      have hw3 := HB3.out.size
      clear hM20 kb1 hjl kl1
      have hLLb : LL ≤ 206 * nS := by have := hX1 nS; rwa [List.take_of_length_le (by rw [HNS.out]; exact Nat.le_refl _), ← HBL.out] at this
      go_wp2_with (at_builtin; refine wpApp rfl _ _ 22 rfl w.heap.size 5 (.int .u8 0) 1 1 Try.underlying22 u8_info rfl (by decide) _ M (bytesV (splice (P ++ offsB nS subs nS) 16 (beN 4 N))) rfl (by first | exact HO3.out | exact owns_below HO3.out (bdrew1 (brefl _)) (Nat.le_refl _)) aL LL cL (bytesV (lksB subs)) rfl (by rw [bytesV_length, HBL.out]; omega) (by first | exact HLK.out | exact HLK.out.below (bdrew1 (brefl _))) HKL.out (bytesV_one _) (by unfold maxLen; omega) (by omega) (by first | exact hw3 | (simp; omega)) ?_; intro a8 c8 w8 ho8 k81 k82 k83 hb8 _; rw [← bytesV_append, ← HCB.out] at ho8; have HO8 := Lib.hid ho8; have HA8 := Lib.hid k83; have HB8 := Lib.hid (HB3.out.trans hb8); clear ho8 k83 hb8)
      go_ret
      rw [HLT.out]
      exact ⟨a8, c8, rfl, HO8.out, k81, k82, HA8.out, HB8.out⟩
end Go.Proofs.Ytcegoenlajkgfaa
end
section

/- A lookup's glyphs in the places of a line's: what Run of a subtable of single glyphs does. Conditions: a subtable and a line in memory; sizes. -/
namespace Go.Proofs.Ytcegoenlajkgfaa
open Go.RowKit Go.Lib

/-- What a lookup gives a glyph. -/
abbrev LkF := Int → Nat × Bool
/-- What a change of a line's glyphs may touch: the line's row. -/
def ownS (bk : Option Nat) (k t : Nat) : Prop := t = 57 ∧ bk = some k
theorem ownBlockS (a : Option Addr) (n c : Nat) : (Value.slice a n c).ownBlock = a.map (·.block) := by cases a <;> rfl
theorem GStep.keepS {bk : Option Nat} {B g : Nat} {a : Option Addr} {c : Nat} {l l' : List (Int × Int)} {w w' : World} (h : GStep B g a a w w') (hg : GIs B g a c l w) (hg' : GIs B g a c l' w') (hl : l'.length = l.length) (hbk : a.map (·.block) = bk) (hz : w.heap.size ≤ w'.heap.size) : KeepC B (ownS bk) w w' := by
  refine ⟨h.below, hz, fun k cs t fz hk ho => ?_⟩
  by_cases e2 : k = g
  · subst e2
    rw [hg'.hd, hg.hd, hl]
  · refine h.keep k (Array.getElem?_eq_some_iff.1 hk).1 e2 ?_
    by_cases e : t = 57
    · intro h2; exact ho ⟨e, hbk.symm.trans h2.symm⟩
    · rw [← ownBlockS a l.length c]; exact own_neE hg.row hk e
theorem gset_keep (B g : Nat) (a : Option Addr) (c : Nat) (l : List (Int × Int)) (w : World) (h : GIs B g a c l w) (z x : Int) :
    Calls Try.prog 65 #[.pointer (some ⟨g, 0, none⟩), .int .i64 z, .int .i64 x] w fun e w' => e = .returned (.bool (inG l z)) ∧ GIs B g a c (setG l z x) w' ∧ KeepC B (ownS (a.map (·.block))) w w' := by
  refine (gset_any B g a c l w h z x).mono ?_
  rintro e w' ⟨he, h1, h2, h3⟩
  exact ⟨he, h1, h2.keepS h h1 (by split <;> simp) rfl (by omega)⟩
theorem ownS_no {bk : Option Nat} {t : Nat} (ht : t ≠ 57) : ∀ k, ¬ ownS bk k t := fun _ h => ht h.1
def lkR (bs : List UInt8) (rs : List RP) : LkF := fun id => getL (tabR bs rs).1 (tabR bs rs).2 id
end Go.Proofs.Ytcegoenlajkgfaa
end
section

/- Read of a subtable of single glyphs, and what its law asks first. Conditions: bytes as the slice says. -/
namespace Go.Proofs.Ytcegoenlajkgfaa
open Go.RowKit Go.Lib

/-- The document's Get of it is the lookup's. -/
theorem lkR_ref {bs : List UInt8} {glyphs : Nat} {rs : List RP} (h : LkOk bs glyphs 2 rs) (hg : glyphs ≤ 65535) (id : Int) : refG bs rs id = lkR bs rs id := by
  have := (refG_tab bs rs h.ok (fun r hr => (h.rows.each hg (.inl rfl)).2 r hr) id rs.length (Nat.le_refl _)).1
  rw [List.take_length] at this
  exact this.symm
end Go.Proofs.Ytcegoenlajkgfaa
end
section

/- A lookup of glyphs from 0 on, in a row: what it is, and what it gives. Conditions: numbers of two bytes; no more than 65535 glyphs. -/
namespace Go.Proofs.Ytcegoenlajkgfaa
open Go.RowKit Go.Lib

theorem vals16_num : ∀ (l : List Nat) (k : Nat), (∀ x ∈ l, x ≤ 65535) → k < l.length → num (vals16 l) (2 * k) 2 = l.getD k 0
  | [], k, _, h => by simp at h
  | x :: l, 0, hx, _ => by
    have := numB2 x (vals16 l) (hx x (by simp))
    simpa [vals16] using this
  | x :: l, k + 1, hx, h => by
    have e : vals16 (x :: l) = beN 2 x ++ vals16 l := rfl
    rw [e, numR (beN 2 x) (vals16 l) (2 * (k + 1)) (2 * k) 2 (by rw [beN_length]; omega), vals16_num l k (fun y hy => hx y (by simp [hy])) (by simpa using h)]
    simp
theorem sub8_split (l : List Nat) : sub8 l = beN 2 8 ++ (beN 2 0 ++ (beN 2 l.length ++ vals16 l)) := by simp [sub8]
theorem sub8_nums (l : List Nat) (hl : l.length ≤ 65535) : num (sub8 l) 0 2 = 8 ∧ num (sub8 l) 2 2 = 0 ∧ num (sub8 l) 4 2 = l.length := by
  rw [sub8_split]
  refine ⟨numB2 8 _ (by decide), ?_, ?_⟩
  · rw [numR (beN 2 8) _ 2 0 2 (by rw [beN_length]), numB2 0 _ (by decide)]
  · rw [numR (beN 2 8) _ 4 2 2 (by rw [beN_length]), numR (beN 2 0) _ 2 0 2 (by rw [beN_length]), numB2 l.length _ hl]
theorem sub8_val (l : List Nat) (hx : ∀ x ∈ l, x ≤ 65535) (k : Nat) (hk : k < l.length) : num (sub8 l) (6 + 2 * k) 2 = l.getD k 0 := by
  rw [sub8_split, numR (beN 2 8) _ (6 + 2 * k) (4 + 2 * k) 2 (by rw [beN_length]; omega), numR (beN 2 0) _ (4 + 2 * k) (2 + 2 * k) 2 (by rw [beN_length]; omega), numR (beN 2 l.length) _ (2 + 2 * k) (2 * k) 2 (by rw [beN_length]), vals16_num l k hx hk]
/-- Its one part, if there is a glyph. -/
def row8 (l : List Nat) : List RP := rowsT 0 l.length 6 2
theorem sub8_ok (l : List Nat) (hl : l.length ≤ 65535) (glyphs : Nat) : LkOk (sub8 l) glyphs 2 (row8 l) := by
  obtain ⟨h1, h2, h3⟩ := sub8_nums l hl
  have := LkRows.eight (bs := sub8 l) (glyphs := glyphs) (size := 2) (by rw [sub8_length]; omega) h1 (by rw [h2, h3]; omega)
  rw [h2, h3] at this
  exact ⟨this, (ok_rowsT _ _ _ _ _ (by rw [sub8_length]; omega)).2 (by rw [sub8_length]; omega)⟩
/-- What it gives. -/
def give8 (l : List Nat) (id : Int) : Nat × Bool := if 0 ≤ id ∧ id < (l.length : Int) then (l.getD id.toNat 0, true) else (0, false)
theorem lk_give8 (l : List Nat) (hl : l.length ≤ 65535) (hx : ∀ x ∈ l, x ≤ 65535) (id : Int) : lkR (sub8 l) (row8 l) id = give8 l id := by
  rw [← lkR_ref (sub8_ok l hl 40) (by decide)]
  unfold refG row8 rowsT give8
  by_cases h0 : l.length = 0
  · rw [if_pos h0, if_neg (by omega)]
    rfl
  · rw [if_neg h0]
    by_cases h : 0 ≤ id ∧ id < (l.length : Int)
    · rw [if_pos h]
      have hin : inR id ⟨0, 0 + l.length - 1, 6, 2, true⟩ = true := by
        unfold inR
        simp
        omega
      rw [List.find?_cons_of_pos hin]
      obtain ⟨k, rfl⟩ : ∃ k : Nat, id = k := ⟨id.toNat, by omega⟩
      have := sub8_val l hx k (by omega)
      show (num (sub8 l) (6 + (if true = true then 2 else 0) * ((k : Int) - ((0 : Nat) : Int)).toNat) 2, true) = (l.getD (k : Int).toNat 0, true)
      rw [if_pos rfl, show ((k : Int) - ((0 : Nat) : Int)).toNat = k by omega, Int.toNat_natCast, this]
    · rw [if_neg h]
      have hin : ¬ inR id ⟨0, 0 + l.length - 1, 6, 2, true⟩ = true := by
        unfold inR
        simp
        omega
      rw [List.find?_cons_of_neg hin]
      rfl
end Go.Proofs.Ytcegoenlajkgfaa
end
section

/- Flags of an entry, as bits. Condition: numbers of two bytes. -/
namespace Go.Proofs.Ytcegoenlajkgfaa
open Go.RowKit

theorem bits_and (v m : Nat) (hv : v ≤ 65535) (hm : m ≤ 65535) : bits .and .i64 (v : Int) (m : Int) = ((v &&& m : Nat) : Int) := by
  have e : (BitVec.ofInt 64 (v : Int)).toNat = v := by rw [BitVec.toNat_ofInt]; omega
  have e2 : (BitVec.ofInt 64 (m : Int)).toNat = m := by rw [BitVec.toNat_ofInt]; omega
  have h : v &&& m ≤ v := Nat.and_le_left
  simp only [bits, BitVec.toNat_and]
  show IntKind.wrap .i64 (((BitVec.ofInt 64 (v : Int)).toNat &&& (BitVec.ofInt 64 (m : Int)).toNat : Nat) : Int) = _
  rw [e, e2, IntKind.wrap_i64]
  omega
theorem nat_and_pow (v k : Nat) : v &&& 2 ^ k = if v / 2 ^ k % 2 = 1 then 2 ^ k else 0 := by
  apply Nat.eq_of_testBit_eq
  intro i
  rw [Nat.testBit_and, Nat.testBit_two_pow]
  by_cases hi : k = i
  · subst hi
    by_cases hb : v / 2 ^ k % 2 = 1
    · rw [if_pos hb, Nat.testBit_two_pow, Nat.testBit_eq_decide_div_mod_eq, hb]; simp
    · rw [if_neg hb, Nat.testBit_eq_decide_div_mod_eq]; simp [hb]
  · split
    · rw [Nat.testBit_two_pow]; simp [hi]
    · simp [hi]
theorem flag_yes (v k : Nat) (hv : v ≤ 65535) (hk : 2 ^ k ≤ 65535) (z : Int) (hz : z = ((2 ^ k : Nat) : Int)) (h : v / 2 ^ k % 2 = 1) : bits .and .i64 (v : Int) z = z := by
  subst hz
  rw [bits_and _ _ hv hk, nat_and_pow, if_pos h]
theorem flag_no (v k : Nat) (hv : v ≤ 65535) (hk : 2 ^ k ≤ 65535) (z : Int) (hz : z = ((2 ^ k : Nat) : Int)) (h : ¬ v / 2 ^ k % 2 = 1) : bits .and .i64 (v : Int) z = 0 := by
  subst hz
  rw [bits_and _ _ hv hk, nat_and_pow, if_neg h]
  rfl
end Go.Proofs.Ytcegoenlajkgfaa
end
section

/- A machine on its way along a line, as a function; drive's classAt at any place. Conditions: a machine and a line in memory; sizes. -/
namespace Go.Proofs.Ytcegoenlajkgfaa
open Go.RowKit Go.Lib

/-- An entry: its next state, flags, and two words. -/
abbrev Ent := Nat × Nat × Nat × Nat
def entX (vb : List UInt8) (k j : Nat) : Ent := (num vb (j * (4 + 2 * k)) 2, num vb (j * (4 + 2 * k) + 2) 2, if 0 < k then num vb (j * (4 + 2 * k) + 4) 2 else 0, if 1 < k then num vb (j * (4 + 2 * k) + 6) 2 else 0)
def entV4 (e : Ent) : Value := .agg #[.int .i64 (e.1 : Nat), .int .i64 (e.2.1 : Nat), .int .i64 (e.2.2.1 : Nat), .int .i64 (e.2.2.2 : Nat)]
theorem entX_le (vb : List UInt8) (k j : Nat) : (entX vb k j).1 ≤ 65535 ∧ (entX vb k j).2.1 ≤ 65535 ∧ (entX vb k j).2.2.1 ≤ 65535 ∧ (entX vb k j).2.2.2 ≤ 65535 := by
  unfold entX
  refine ⟨num2_lt _ _, num2_lt _ _, ?_, ?_⟩
  · dsimp only; split
    · exact num2_lt _ _
    · omega
  · dsimp only; split
    · exact num2_lt _ _
    · omega
/-- The entry of a state and a class. -/
def enM (bs : List UInt8) (k s c : Nat) : Ent := entX (bs.drop (num bs 12 4)) k (entN bs (s * num bs 0 4 + c))
/-- The class of a line's place, or of its end. -/
def clD (bs : List UInt8) (rs : List RP) (l : List (Int × Int)) (z : Nat) : Nat := match l[z]? with
  | some p => classM bs rs p.1
  | none => 0
theorem classM_less (bs : List UInt8) (rs : List RP) (id : Int) (h : 4 ≤ num bs 0 4) : classM bs rs id < num bs 0 4 := by
  unfold classM
  split
  · omega
  · simp only
    split
    · rename_i h2; exact h2.2
    · omega
theorem clD_lt (bs : List UInt8) (rs : List RP) (l : List (Int × Int)) (z : Nat) (h : 4 ≤ num bs 0 4) : clD bs rs l z < num bs 0 4 := by
  unfold clD
  split
  · exact classM_less _ _ _ h
  · omega
theorem enM_next (bs : List UInt8) (k : Nat) {glyphs : Nat} {rs : List RP} {S s c : Nat} (hok : MOk bs glyphs k rs S) (hs : s < S) (hc : c < num bs 0 4) : (enM bs k s c).1 < S := by
  have h1 : entN bs (s * num bs 0 4 + c) < needE bs S := ent_in hs hc
  have h2 : nextN bs k (entN bs (s * num bs 0 4 + c)) < needS bs k (needE bs S) := needL_lt h1
  have h3 := hok.least.closed.2
  have h4 : (enM bs k s c).1 = nextN bs k (entN bs (s * num bs 0 4 + c)) := by
    unfold enM entX nextN
    rw [num_dropS]
  omega
/-- A machine goes along a line: what becomes of it, how many steps, and the error. -/
def runD {X : Type} (cl : X → Nat → Nat) (en : Nat → Nat → Ent) (fin : X → Nat → Bool) (act : X → Nat → Ent → X × Int × Int) : Nat → X → Nat → Nat → Nat → Nat → X × Nat × Nat
  | 0, x, _, _, _, st => (x, st - 1, 4)
  | fu + 1, x, now, z, re, st =>
    let e := en now (cl x z)
    let r := act x z e
    if e.2.1 / 2 ^ 14 % 2 = 1 then (if 64 < re + 1 then (r.1, st, 4) else runD cl en fin act fu r.1 e.1 (max r.2.1 0).toNat (re + 1) (st + 1))
    else if fin x z then (r.1, st, 0) else runD cl en fin act fu r.1 e.1 (max r.2.2 0).toNat 0 (st + 1)
set_option maxRecDepth 100000 in
set_option maxHeartbeats 1600000 in
theorem classAt_z (B g : Nat) (bs : List UInt8) (k : Nat) (rs : List RP) (S : Nat) (Bl gl : Nat) (a : Option Addr) (c : Nat) (l : List (Int × Int)) (z : Nat) (hz : z ≤ 1000000000) (w : World) (h : MIs B g bs k rs S w) (hf : FitL (tabR (bs.drop (num bs 4 4)) rs).1 (tabR (bs.drop (num bs 4 4)) rs).2) (hG : GIs Bl gl a c l w) (hid : ∀ p ∈ l, -9223372036854775808 ≤ p.1 ∧ p.1 ≤ 9223372036854775807) :
    Calls Try.prog 71 #[.pointer (some ⟨g, 0, none⟩), .pointer (some ⟨gl, 0, none⟩), .int .i64 (z : Nat)] w fun e w' => e = .returned (.tuple #[.int .i64 (clD bs rs l z : Nat), .bool (decide (z < l.length))]) ∧ Below w.heap.size w w' := by
  have hAC := allocC
  have hAF := allocF
  have HAt := Lib.hid (gat_any Bl gl a c l w hG (z : Nat))
  have HM := Lib.hid h
  have HF := Lib.hid hf
  cases hl : l[z]? with
  | none =>
    have hin : inG l (z : Nat) = false := by
      have := List.getElem?_eq_none_iff.1 hl
      unfold inG
      simp
      omega
    rw [show clD bs rs l z = 0 by rw [clD, hl], show decide (z < l.length) = false by have := List.getElem?_eq_none_iff.1 hl; simp; omega]
    rw [hin, show atG l (z : Nat) = (0, 0) by rw [atG, if_neg (by rw [hin]; decide)]] at HAt
    simp only [glyphA] at HAt
    clear hl hin h hG hid hf
    go_enter Try.func71, Try.ntmps71
    go_wp2_with (go_at_call 49; (with_reducible refine HAt.out.mono ?_); rintro e w1 ⟨rfl, hb1⟩)
    go_ret2
    exact ⟨rfl, blw⟩
  | some p =>
    have hin : inG l (z : Nat) = true := inG_of hl
    have hat : atG l (z : Nat) = p := atG_of hl
    have hp := hid p (List.mem_of_getElem? hl)
    rw [show clD bs rs l z = classM bs rs p.1 by rw [clD, hl], show decide (z < l.length) = true by have := (List.getElem?_eq_some_iff.1 hl).1; simp; omega]
    rw [hin, hat] at HAt
    obtain ⟨p1, p2⟩ := p
    simp only [glyphA] at HAt hp
    have HC := Lib.hid (fun W (hW : Below w.heap.size w W) => class_any B g bs k rs S p1 W (HM.out.below hW) HF.out hp)
    clear hl hin hat h hG hid hf hp
    generalize classM bs rs p1 = C at *
    go_enter Try.func71, Try.ntmps71
    go_wp2_with (first | (go_at_call 49; (with_reducible refine HAt.out.mono ?_); rintro e w1 ⟨rfl, hb1⟩; have h1c := bc hb1; have h1f := bf hb1; have h1z := hb1.size) | (go_at_call 99; (with_reducible refine (HC.out _ (by exact blw)).mono ?_); rintro e w2 ⟨rfl, hb2⟩))
    go_ret2
    exact ⟨rfl, blw⟩
end Go.Proofs.Ytcegoenlajkgfaa
end
section

/- Lookups of a subtable that changes glyphs by what stands around them, as the document has them, and what its swap does. Conditions: the lookups in memory; sizes. -/
namespace Go.Proofs.Ytcegoenlajkgfaa
open Go.RowKit Go.Lib

/-- Another glyph in a place, if a lookup has one. -/
def swG (lk : Nat → Int → Nat × Bool) (l : List (Int × Int)) (i : Int) (which : Nat) : List (Int × Int) :=
  if which = 65535 then l else if inG l i = true then (if (lk which (atG l i).1).2 = true then setG l i ((lk which (atG l i).1).1 : Nat) else l) else l
theorem swG_length (lk : Nat → Int → Nat × Bool) (l : List (Int × Int)) (i : Int) (which : Nat) : (swG lk l i which).length = l.length := by
  unfold swG
  split
  · rfl
  split
  · split
    · exact setG_length _ _ _
    · rfl
  · rfl
end Go.Proofs.Ytcegoenlajkgfaa
end
section

/- Such a subtable of layer 15, as its bytes tell it. No condition. -/
namespace Go.Proofs.Ytcegoenlajkgfaa
open Go.RowKit Go.Lib

/-- As many lookups as a number of one asks for. -/
def cwX (x : Nat) : Nat := if x = 65535 then 0 else x + 1
def entW (bs : List UInt8) (j : Nat) : Ent := entX (bs.drop (num bs 12 4)) 2 j
/-- As many as the first entries ask for. -/
def cntC (bs : List UInt8) : Nat → Nat
  | 0 => 0
  | j + 1 => max (max (cntC bs j) (cwX (entW bs j).2.2.1)) (cwX (entW bs j).2.2.2)
theorem cntC_mono (bs : List UInt8) {i j : Nat} (h : i ≤ j) : cntC bs i ≤ cntC bs j := by
  induction h with
  | refl => exact Nat.le_refl _
  | step h ih => exact Nat.le_trans ih (by show _ ≤ max (max _ _) _; omega)
theorem cntC_le (bs : List UInt8) : ∀ j, cntC bs j ≤ 65536
  | 0 => by simp [cntC]
  | j + 1 => by
    have ih := cntC_le bs j
    have h := entX_le (bs.drop (num bs 12 4)) 2 j
    show max (max _ (cwX (entW bs j).2.2.1)) (cwX (entW bs j).2.2.2) ≤ _
    have h1 : cwX (entW bs j).2.2.1 ≤ 65535 := by unfold cwX; have : (entW bs j).2.2.1 ≤ 65535 := h.2.2.1; split <;> omega
    have h2 : cwX (entW bs j).2.2.2 ≤ 65535 := by unfold cwX; have : (entW bs j).2.2.2 ≤ 65535 := h.2.2.2; split <;> omega
    omega
theorem cntC_65 (bs : List UInt8) : ∀ j, cntC bs j ≤ 65535
  | 0 => by simp [cntC]
  | j + 1 => by
    have ih := cntC_65 bs j
    have h := entX_le (bs.drop (num bs 12 4)) 2 j
    show max (max _ (cwX (entW bs j).2.2.1)) (cwX (entW bs j).2.2.2) ≤ _
    have h1 : cwX (entW bs j).2.2.1 ≤ 65535 := by unfold cwX; have : (entW bs j).2.2.1 ≤ 65535 := h.2.2.1; split <;> omega
    have h2 : cwX (entW bs j).2.2.2 ≤ 65535 := by unfold cwX; have : (entW bs j).2.2.2 ≤ 65535 := h.2.2.2; split <;> omega
    omega
/-- Each entry's lookups are among them. -/
theorem cntC_in (bs : List UInt8) {j N : Nat} (h : j < N) : ((entW bs j).2.2.1 = 65535 ∨ (entW bs j).2.2.1 < cntC bs N) ∧ ((entW bs j).2.2.2 = 65535 ∨ (entW bs j).2.2.2 < cntC bs N) := by
  have h1 : cntC bs (j + 1) ≤ cntC bs N := cntC_mono bs h
  have h2 : cntC bs (j + 1) = max (max (cntC bs j) (cwX (entW bs j).2.2.1)) (cwX (entW bs j).2.2.2) := rfl
  unfold cwX at h2
  constructor
  · by_cases e : (entW bs j).2.2.1 = 65535
    · exact .inl e
    · rw [if_neg e] at h2
      exact .inr (by omega)
  · by_cases e : (entW bs j).2.2.2 = 65535
    · exact .inl e
    · rw [if_neg e] at h2
      exact .inr (by omega)
/-- Where a lookup stands. -/
def offC (bs : List UInt8) (i : Nat) : Nat := num bs 16 4 + num bs (num bs 16 4 + 4 * i) 4
structure LkC (bs : List UInt8) (glyphs i : Nat) (rs : List RP) : Prop where
  at_ : num bs 16 4 + 4 * i + 4 ≤ bs.length
  off : offC bs i ≤ bs.length
  ok : LkOk (bs.drop (offC bs i)) glyphs 2 rs
theorem LkC.det {bs : List UInt8} {glyphs i : Nat} {r1 r2 : List RP} (h1 : LkC bs glyphs i r1) (h2 : LkC bs glyphs i r2) : r1 = r2 := h1.ok.det h2.ok
structure COk (bs : List UInt8) (glyphs : Nat) (rs : List RP) (S : Nat) (qs : List (List RP)) : Prop where
  mok : MOk bs glyphs 2 rs S
  l20 : 20 ≤ bs.length
  at_ : num bs 16 4 ≤ bs.length
  len : qs.length = cntC bs (needE bs S)
  each : ∀ i q, qs[i]? = some q → LkC bs glyphs i q
theorem COk.det {bs : List UInt8} {glyphs : Nat} {r1 r2 : List RP} {S1 S2 : Nat} {q1 q2 : List (List RP)} (h1 : COk bs glyphs r1 S1 q1) (h2 : COk bs glyphs r2 S2 q2) : r1 = r2 ∧ S1 = S2 ∧ q1 = q2 := by
  obtain ⟨rfl, rfl⟩ := h1.mok.det h2.mok
  refine ⟨rfl, rfl, List.ext_getElem (h1.len.trans h2.len.symm) fun i hi hj => ?_⟩
  exact (h1.each i _ (List.getElem?_eq_getElem hi)).det (h2.each i _ (List.getElem?_eq_getElem hj))
end Go.Proofs.Ytcegoenlajkgfaa
end
section

/- A map of lookups by where they stand, and a row of them. Conditions: as each says. -/
namespace Go.Proofs.Ytcegoenlajkgfaa
open Go.RowKit Go.Lib

def wfQ (n : Int) : Prop := (Lit.int .i64 n).wf = true
theorem wfQ_of {n : Int} (h1 : -9223372036854775808 ≤ n) (h2 : n ≤ 9223372036854775807) : wfQ n := by unfold wfQ; exact WalkArith.wf_i64 (by omega)
abbrev kQ (n : Int) : Lit := .int .i64 n
theorem lawQ : Maps.Keyed Try.prog 3 := Maps.int_keyed Try.underlying3
theorem keyQ {n : Int} (h : wfQ n) : keyOf Try.prog 3 (.int .i64 n) = some (kQ n) := Maps.keyOf_int_mk Try.underlying3 h
theorem kQ_key (n : Int) : WideAt.IsKeyLit (kQ n) := by trivial
theorem kQ_ne {m n : Int} (h : m ≠ n) : kQ m ≠ kQ n := fun e => h (by injection e)
/-- A pointer to a block's beginning, or none. -/
def ptrV : Option Nat → Value
  | none => .pointer none
  | some g => .pointer (some ⟨g, 0, none⟩)
def ptrD : Option Nat → DataW Unit
  | none => .lit (.int .i64 (-1))
  | some g => .lit (.int .i64 (g : Nat))
theorem ptrD_inj {a b : Option Nat} (h : ptrD a = ptrD b) : a = b := by
  cases a with
  | none =>
    cases b with
    | none => rfl
    | some y =>
      simp only [ptrD, DataW.lit.injEq, Lit.int.injEq] at h
      omega
  | some x =>
    cases b with
    | none =>
      simp only [ptrD, DataW.lit.injEq, Lit.int.injEq] at h
      omega
    | some y =>
      simp only [ptrD, DataW.lit.injEq, Lit.int.injEq] at h
      rw [show x = y by omega]
def ptrR (v : Value) : Option (DataW Unit × List MemPlace) := match v with
  | .pointer none => some (ptrD none, [])
  | .pointer (some ⟨g, 0, none⟩) => some (ptrD (some g), [])
  | _ => none
theorem ptrR_mk (o : Option Nat) : ptrR (ptrV o) = some (ptrD o, []) := by cases o <;> rfl
theorem ptrR_inv {v : Value} {y : DataW Unit × List MemPlace} (h : ptrR v = some y) : ∃ o, v = ptrV o ∧ y = (ptrD o, []) := by
  unfold ptrR at h
  split at h
  · cases h; exact ⟨none, rfl, rfl⟩
  · cases h; exact ⟨some _, rfl, rfl⟩
  · cases h
theorem zero_ptr (w : World) : (zeroValue 123).run Try.prog w = .ok (.pointer none) w := by kernel_rfl
theorem wpLookP {w : World} {ops : Array Oper} {rest : List Oper} {o : Oper} {a : Act} {Q : Exit → Act → World → Prop} (hg : o.guard = none) (m x : Operand) (t : TypeId) (hop : o.op = Op.lookup t m x false)
    (ht : Try.prog.underlying t = some (.map 3 123)) (b n : Nat) (D : DataW Unit) (hm : a.eval m = .map (some b)) (hown : w.ownsMap Try.prog 3 ptrR b n D)
    (k : Int) (hx : a.eval x = .int .i64 k) (hk : wfQ k) (r : Option Nat) (hr : D.atKey (kQ k) (ptrD none) = ptrD r) (hK : wpList Try.prog ops Q rest (a.put o.dst (ptrV r)) w) : wpList Try.prog ops Q (o :: rest) a w := by
  refine wpList_plain hg fun K' hK' => ?_
  obtain ⟨v, ps, hrun, hv⟩ := hown.lookup lawQ ht (zero_ptr _) (ptrR_mk none) (keyQ hk)
  obtain ⟨c, rfl, hc⟩ := ptrR_inv hv
  have e := (Prod.mk.inj hc).1
  rw [hr] at e
  obtain rfl := ptrD_inj e
  unfold Oper.wp
  simp [execOp, hop, hm, hx, hrun, Result.andThen]
  exact hK' _ _ hK
theorem map_below {w w' : World} {P : Program} {k : TypeId} {R : Value → Option (DataW Unit × List MemPlace)} {b n : Nat} {D : DataW Unit} (h : w.ownsMap P k R b n D) (hb : Below w.heap.size w w') : w'.ownsMap P k R b n D := by
  obtain ⟨es, clock, h1, h2, h3, h4⟩ := h
  exact ⟨es, clock, (hb.block b (Array.getElem?_eq_some_iff.1 h1).1).trans h1, h2, h3, h4⟩
/-- A map says this: whatever stands in it is so. -/
def SaysP (D : DataW Unit) (F : Int → Nat → Prop) : Prop := Maps.IsMap D ∧ ∀ z, ∃ o, D.atKey (kQ z) (ptrD none) = ptrD o ∧ ∀ g, o = some g → F z g
theorem saysP_start (F : Int → Nat → Prop) : SaysP (.map []) F := ⟨⟨[], rfl⟩, fun z => ⟨none, rfl, fun g h => by cases h⟩⟩
theorem SaysP.imp {D : DataW Unit} {F G : Int → Nat → Prop} (h : SaysP D F) (hi : ∀ z g, F z g → G z g) : SaysP D G := ⟨h.1, fun z => by obtain ⟨o, h1, h2⟩ := h.2 z; exact ⟨o, h1, fun g hg => hi _ _ (h2 g hg)⟩⟩
theorem SaysP.put {D : DataW Unit} {F : Int → Nat → Prop} (h : SaysP D F) {z : Int} {g : Nat} (hf : F z g) : SaysP (D.put (kQ z) (ptrD (some g))) F := by
  refine ⟨h.1.put _ _, fun y => ?_⟩
  by_cases e : y = z
  · subst e
    exact ⟨some g, Maps.atKey_put_same h.1 (kQ_key _) _ _, fun g' hg => by cases hg; exact hf⟩
  · obtain ⟨o, h1, h2⟩ := h.2 y
    exact ⟨o, by rw [Maps.atKey_put_other (kQ_ne e)]; exact h1, h2⟩
theorem SaysP.at {D : DataW Unit} {F : Int → Nat → Prop} (h : SaysP D F) (z : Int) (g : Nat) : (D.put (kQ z) (ptrD (some g))).atKey (kQ z) (ptrD none) = ptrD (some g) := Maps.atKey_put_same h.1 (kQ_key _) _ _
/-- Lookups of a list, as its bytes tell it. -/
structure ListOk (vb : List UInt8) (glyphs n : Nat) (qs : List (List RP)) : Prop where
  at_ : 4 * n ≤ vb.length
  len : qs.length = n
  each : ∀ i q, qs[i]? = some q → num vb (4 * i) 4 ≤ vb.length ∧ LkOk (vb.drop (num vb (4 * i) 4)) glyphs 2 q
/-- The lookup at a place lies in memory. -/
def LkG (B : Nat) (vb : List UInt8) (glyphs : Nat) (w : World) (z : Int) (g : Nat) : Prop := ∃ q fmt, z.toNat ≤ vb.length ∧ LkOk (vb.drop z.toNat) glyphs 2 q ∧ TabIs B g fmt (tabR (vb.drop z.toNat) q).1 (tabR (vb.drop z.toNat) q).2 w
def rowP (ps : List Nat) (n : Nat) : List Value := (ps.map fun g => ptrV (some g)) ++ List.replicate (n - ps.length) (.pointer none)
theorem rowP_nil (n : Nat) : rowP [] n = List.replicate n (.pointer none) := by simp [rowP]
theorem rowP_all (ps : List Nat) (n : Nat) (h : ps.length = n) : rowP ps n = ps.map fun g => ptrV (some g) := by simp [rowP, h]
theorem rowP_set (ps : List Nat) (n g : Nat) (h : ps.length < n) : (rowP ps n).set ps.length (ptrV (some g)) = rowP (ps ++ [g]) n := by
  unfold rowP
  rw [List.set_append_right _ _ (by simp), List.length_map, Nat.sub_self, show n - ps.length = (n - (ps ++ [g]).length) + 1 by simp; omega, List.replicate_succ, List.set_cons_zero]
  simp
theorem made_ptr (n : Nat) : (madeCells (Value.pointer none).cells (n * 1)).toList = rowP [] n := by
  rw [rowP_nil]
  apply List.ext_getElem?
  intro j
  simp only [madeCells, Value.cells]
  by_cases h : j < n
  · simp [h, Nat.mod_one]
  · simp [h]
theorem info_ptr : (Try.prog.info? 123).map (fun i => (i.zero, i.size, i.bytes)) = some (some (.pointer none), 1, 8) := by kernel_rfl
/-- While the lookups are taken. -/
structure CLInv (B : Nat) (vb : List UInt8) (glyphs n M g3 g7 bm go : Nat) (v3 v7 : Value) (qs : List (List RP)) (ps : List Nat) (wr : World) : Prop where
  len : qs.length = ps.length
  h3 : wr.heap[g3]? = some (.cells #[v3] 69 (0, 0))
  h7 : wr.heap[g7]? = some (.cells #[v7] 69 (0, 0))
  map : ∃ m D, m ≤ M ∧ wr.ownsMap Try.prog 3 ptrR bm m D ∧ SaysP D (LkG B vb glyphs wr)
  row : wr.ownsRow B 123 1 (.slice (some ⟨go, 0, none⟩) n n) n (rowP ps n)
  tabs : ∀ i q g, qs[i]? = some q → ps[i]? = some g → (num vb (4 * i) 4 ≤ vb.length ∧ LkOk (vb.drop (num vb (4 * i) 4)) glyphs 2 q) ∧ ∃ fmt, TabIs B g fmt (tabR (vb.drop (num vb (4 * i) 4)) q).1 (tabR (vb.drop (num vb (4 * i) 4)) q).2 wr
theorem CLInv.below {B : Nat} {vb : List UInt8} {glyphs n M g3 g7 bm go : Nat} {v3 v7 : Value} {qs : List (List RP)} {ps : List Nat} {w w' : World} (h : CLInv B vb glyphs n M g3 g7 bm go v3 v7 qs ps w) (hb : Below w.heap.size w w') : CLInv B vb glyphs n M g3 g7 bm go v3 v7 qs ps w' := by
  obtain ⟨m, D, hm, ho, hs⟩ := h.map
  exact ⟨h.len, (hb.block _ (Array.getElem?_eq_some_iff.1 h.h3).1).trans h.h3, (hb.block _ (Array.getElem?_eq_some_iff.1 h.h7).1).trans h.h7, ⟨m, D, hm, map_below ho hb, hs.imp fun z g ⟨q, fmt, h1, h2, h3⟩ => ⟨q, fmt, h1, h2, h3.below hb⟩⟩, owns_below h.row hb (Nat.le_refl _),
    fun i q g h1 h2 => ⟨(h.tabs i q g h1 h2).1, by obtain ⟨fmt, ht⟩ := (h.tabs i q g h1 h2).2; exact ⟨fmt, ht.below hb⟩⟩⟩
/-- What a store into the map leaves. -/
theorem kept_map {B b m : Nat} {D : DataW Unit} {own : Nat → Nat → Prop} {w w' : World} (ho : w.ownsMap Try.prog 3 ptrR b m D) (hg : w.grownBy w' (some b)) (hB : B ≤ b) : KeepC B own w w' := by
  obtain ⟨es, clock, h1, _⟩ := ho
  refine ⟨(Below.refl _ w).grown hg (Nat.le_trans hB (Nat.le_of_lt (Array.getElem?_eq_some_iff.1 h1).1)) (fun k hk => by injection hk with hk; omega), hg.size, fun k cs t fz hk _ => ?_⟩
  refine hg.block k (Array.getElem?_eq_some_iff.1 hk).1 ?_
  rintro e
  injection e with e
  subst e
  rw [h1] at hk
  injection hk with hk
  cases hk
end Go.Proofs.Ytcegoenlajkgfaa
end
section

/- ctx.take: so many lookups whose places stand in a list. Conditions: as many bytes as the slice says; sizes. -/
namespace Go.Proofs.Ytcegoenlajkgfaa
open Go.RowKit Go.Lib

/-- A pointer is stored into the row. -/
theorem CLInv.stored {B : Nat} {vb : List UInt8} {glyphs n M g3 g7 bm go : Nat} {v3 v7 : Value} {qs : List (List RP)} {ps : List Nat} {w : World} (h : CLInv B vb glyphs n M g3 g7 bm go v3 v7 qs ps w) (hlt : ps.length < n) (g : Nat) (hg : LkG B vb glyphs w (num vb (4 * ps.length) 4 : Nat) g) :
    ∃ q, CLInv B vb glyphs n M g3 g7 bm go v3 v7 (qs ++ [q]) (ps ++ [g]) (w.setCell ⟨go, ps.length, none⟩ (ptrV (some g))) := by
  obtain ⟨q, fmt, k1, k2, k3⟩ := hg
  rw [Int.toNat_natCast] at k1 k2 k3
  obtain ⟨g0, cs, u, he, hB, hh, _, _, _, hs⟩ := row_at h.row ps.length (by omega)
  cases he
  have other : ∀ {k : Nat} {v : Value}, w.heap[k]? = some (.cells #[v] 69 (0, 0)) → (w.setCell ⟨go, ps.length, none⟩ (ptrV (some g))).heap[k]? = some (.cells #[v] 69 (0, 0)) := fun {k v} hk => (set_heap_other _ (by
    rintro rfl
    rw [hk] at hh
    injection hh with hh
    injection hh with _ h2 _
    exact absurd h2 (by decide))).trans hk
  have tab : ∀ {g fmt : Nat} {ps' : List PartL} {ns : List Nat}, TabIs B g fmt ps' ns w → TabIs B g fmt ps' ns (w.setCell ⟨go, ps.length, none⟩ (ptrV (some g))) := fun ht => ht.setOther hh (by decide) (by decide) (by decide) _
  have tab2 : ∀ {g2 fmt : Nat} {ps' : List PartL} {ns : List Nat}, TabIs B g2 fmt ps' ns w → TabIs B g2 fmt ps' ns (w.setCell ⟨go, ps.length, none⟩ (ptrV (some g))) := fun ht => ht.setOther hh (by decide) (by decide) (by decide) _
  obtain ⟨m, D, hm, ho, hsy⟩ := h.map
  refine ⟨q, by simp [h.len], other h.h3, other h.h7, ⟨m, D, hm, ?_, hsy.imp fun z g2 ⟨q2, f2, y1, y2, y3⟩ => ⟨q2, f2, y1, y2, tab2 y3⟩⟩, ?_, fun i q2 g2 h1 h2 => ?_⟩
  · obtain ⟨es, clock, e1, e2, e3, e4⟩ := ho
    exact ⟨es, clock, (set_heap_other _ (by
      rintro rfl
      rw [e1] at hh
      injection hh with hh
      cases hh)).trans e1, e2, e3, e4⟩
  · have := hs (ptrV (some g))
    rwa [rowP_set ps n g hlt] at this
  · rw [List.getElem?_append] at h1 h2
    rw [h.len] at h1
    split at h2
    · rename_i hi
      rw [if_pos hi] at h1
      exact ⟨(h.tabs i q2 g2 h1 h2).1, by obtain ⟨f2, ht⟩ := (h.tabs i q2 g2 h1 h2).2; exact ⟨f2, tab2 ht⟩⟩
    · rename_i hi
      rw [if_neg hi] at h1
      have e : i = ps.length := by
        have := (List.getElem?_eq_some_iff.1 h2).1
        simp at this
        omega
      subst e
      rw [Nat.sub_self] at h1 h2
      simp at h1 h2
      subst h1 h2
      exact ⟨⟨k1, k2⟩, fmt, tab2 k3⟩
/-- A lookup is put into the map. -/
theorem CLInv.mapped {B : Nat} {vb : List UInt8} {glyphs n M g3 g7 bm go m z g : Nat} {v3 v7 : Value} {qs : List (List RP)} {ps : List Nat} {D : DataW Unit} {w w' : World} (h : CLInv B vb glyphs n M g3 g7 bm go v3 v7 qs ps w) (hBm : B ≤ bm) (ho : w.ownsMap Try.prog 3 ptrR bm m D) (hm : m ≤ M) (hs : SaysP D (LkG B vb glyphs w)) (hg : LkG B vb glyphs w (z : Nat) g)
    (ho' : w'.ownsMap Try.prog 3 ptrR bm (m + 1) (D.put (kQ (z : Nat)) (ptrD (some g)))) (hgr : w.grownBy w' (some bm)) : CLInv B vb glyphs n (M + 1) g3 g7 bm go v3 v7 qs ps w' := by
  have hk : KeepC B (fun _ _ => False) w w' := kept_map ho hgr hBm
  have tab : ∀ {g2 fmt : Nat} {ps' : List PartL} {ns : List Nat}, TabIs B g2 fmt ps' ns w → TabIs B g2 fmt ps' ns w' := fun ht => ht.keepC hk (fun _ h => h) (fun _ h => h) (fun h => h)
  have lkg : ∀ z g, LkG B vb glyphs w z g → LkG B vb glyphs w' z g := fun z g ⟨q, f, y1, y2, y3⟩ => ⟨q, f, y1, y2, tab y3⟩
  exact ⟨h.len, (hk.kept _ _ _ _ h.h3 (fun h => h)).trans h.h3, (hk.kept _ _ _ _ h.h7 (fun h => h)).trans h.h7, ⟨m + 1, _, by omega, ho', (hs.put hg).imp lkg⟩, hk.owns h.row (fun _ h => h),
    fun i q g h1 h2 => ⟨(h.tabs i q g h1 h2).1, by obtain ⟨fmt, ht⟩ := (h.tabs i q g h1 h2).2; exact ⟨fmt, tab ht⟩⟩⟩
theorem map_made (w : World) (b : Nat) (hb : b = w.heap.size) : (w.alloc (.map #[] 0)).ownsMap Try.prog 3 ptrR b 0 (.map []) := by subst hb; exact World.ownsMap_made _ _ _ _
theorem LkG.below {B : Nat} {vb : List UInt8} {glyphs : Nat} {z : Int} {g : Nat} {w w' : World} (h : LkG B vb glyphs w z g) (hb : Below w.heap.size w w') : LkG B vb glyphs w' z g := by
  obtain ⟨q, f, y1, y2, y3⟩ := h
  exact ⟨q, f, y1, y2, y3.below hb⟩
theorem LkG.mapped {B bm m : Nat} {vb : List UInt8} {glyphs : Nat} {z : Int} {g : Nat} {D : DataW Unit} {w w' : World} (h : LkG B vb glyphs w z g) (hBm : B ≤ bm) (ho : w.ownsMap Try.prog 3 ptrR bm m D) (hgr : w.grownBy w' (some bm)) : LkG B vb glyphs w' z g := by
  obtain ⟨q, f, y1, y2, y3⟩ := h
  have hk : KeepC B (fun _ _ => False) w w' := kept_map ho hgr hBm
  exact ⟨q, f, y1, y2, y3.keepC hk (fun _ h => h) (fun _ h => h) (fun h => h)⟩
theorem CLInv.more {B : Nat} {vb : List UInt8} {glyphs n M M' g3 g7 bm go : Nat} {v3 v7 : Value} {qs : List (List RP)} {ps : List Nat} {w : World} (h : CLInv B vb glyphs n M g3 g7 bm go v3 v7 qs ps w) (hM : M ≤ M') : CLInv B vb glyphs n M' g3 g7 bm go v3 v7 qs ps w := by
  obtain ⟨m, D, hm, ho, hs⟩ := h.map
  exact ⟨h.len, h.h3, h.h7, ⟨m, D, Nat.le_trans hm hM, ho, hs⟩, h.row, h.tabs⟩
/-- Lookups in a row of memory. -/
structure TabsAt (B : Nat) (vb : List UInt8) (qs : List (List RP)) (ps : List Nat) (w : World) : Prop where
  len : ps.length = qs.length
  each : ∀ i q g, qs[i]? = some q → ps[i]? = some g → ∃ fmt, TabIs B g fmt (tabR (vb.drop (num vb (4 * i) 4)) q).1 (tabR (vb.drop (num vb (4 * i) 4)) q).2 w
def CTakeIs (vb : List UInt8) (glyphs n : Nat) (w : World) (e : Ending) (w' : World) : Prop :=
  ((∃ qs ps go, ListOk vb glyphs n qs ∧ e = .returned (.slice (some ⟨go, 0, none⟩) n n) ∧ w'.ownsRow w.heap.size 123 1 (.slice (some ⟨go, 0, none⟩) n n) n (ps.map fun g => ptrV (some g)) ∧ TabsAt w.heap.size vb qs ps w') ∨
   ((∀ qs, ¬ ListOk vb glyphs n qs) ∧ e = .panicked thrown)) ∧ Below w.heap.size w w'
set_option maxRecDepth 100000 in
set_option maxHeartbeats 6400000 in
theorem ctlist_any (a : Option Addr) (N c : Nat) (vb : List UInt8) (glyphs n : Nat) (zg zn : Int) (hzg : zg = (glyphs : Nat)) (hzn : zn = (n : Nat)) (w : World) (hh : Has w a (bytesV vb)) (hbl : vb.length = N) (hnc : N ≤ c) (hc : c ≤ maxLen) (hg1 : 1 ≤ glyphs) (hg2 : glyphs ≤ 65535) (hn : n ≤ 65535) :
    Calls Try.prog 59 #[.agg #[.slice a N c], .int .i64 zn, .int .i64 zg] w (CTakeIs vb glyphs n w) := by
  have hAC := allocC
  have hAF := allocF
  have hmm := @run_makeMap Try.prog
  subst hzg hzn
  have hcm := hc
  unfold maxLen at hcm
  have HH := Lib.hid hh
  have HL := Lib.hid hbl
  clear hh hbl
  by_cases hfit : n * 4 ≤ N
  case neg =>
    have HNO := Lib.hid (show ∀ qs, ¬ ListOk vb glyphs n qs from fun qs ho => hfit (by have := ho.at_; rw [HL.out] at this; omega))
    have HB1 := Lib.hid (fun W => rows_zb a N c 0 n 4 0 (n : Nat) 4 rfl rfl rfl W hn (by decide) (by decide) (by rintro ⟨_, hy⟩; rw [Nat.sub_zero, Nat.le_div_iff_mul_le (by decide)] at hy; exact hfit hy) hnc hc)
    clear hfit
    go_enter Try.func59, Try.ntmps59
    go_wp2_with (first | (go_at_call 83; (with_reducible refine (HB1.out _).mono ?_); rintro e w1 ⟨rfl, hb1⟩; have h1c := bc hb1; have h1f := bf hb1; have h1z := hb1.size; try simp only [World.size_alloc, World.size_drew] at h1z))
    exact ⟨rfl, .inr ⟨HNO.out, rfl⟩, blw⟩
  obtain ⟨P, hP⟩ : ∃ P, n * 4 = P := ⟨_, rfl⟩
  have hrw := fun W => rows_z a N c 0 n 4 P 0 (n : Nat) 4 rfl rfl rfl W hP (by omega) (.inr ((Nat.le_div_iff_mul_le (show 0 < 4 by decide)).2 (by omega))) (by omega) (by decide) hnc hc
  rw [adv_zero, Nat.sub_zero] at hrw
  have HRW := Lib.hid hrw
  have HPP := Lib.hid hP
  have hPN : P ≤ N := by omega
  clear hrw hP hfit
  go_enter Try.func59, Try.ntmps59
  go_wp2_with (first | (go_at_call 83; (with_reducible refine (HRW.out _).mono ?_); rintro e w1 ⟨rfl, hb1⟩; have h1c := bc hb1; have h1f := bf hb1; have h1z := hb1.size; try simp only [World.size_alloc, World.size_drew] at h1z) | (at_make; refine wpMake _ rfl _ _ 97 rfl w.heap.size 123 (.pointer none) 1 8 Try.underlying97 info_ptr n rfl rfl (by omega) (by unfold maxLen; omega) (by first | omega | (simp; omega)) ?_; intro w4 hown hb4; have HO4 := Lib.hid hown; have HB4 := Lib.hid hb4; clear hown hb4))
  have hzv := HB4.out.size
  simp only [World.size_alloc] at hzv
  have ho4 := HO4.out
  simp only [World.size_alloc] at ho4
  have hb1w : Below w.heap.size w w1 := blw
  have HBW := Lib.hid (hb1w.trans ((balloc (brefl w1) _).mono hb1w.size) |>.trans ((balloc (brefl _) (.map #[] 0)).mono (by simp only [World.size_alloc]; omega)) |>.trans (HB4.out.mono (by simp only [World.size_alloc]; omega)))
  have HST := Lib.hid (show CLInv w.heap.size vb glyphs n 0 w.heap.size w1.heap.size (w1.heap.size + 1) (w1.heap.size + 1 + 1) (.slice a N c) (.slice a P c) [] [] w4 from
    ⟨rfl, (HB4.out.block _ (by simp only [World.size_alloc]; omega)).trans ((heap_push _ _ _).trans (by rw [if_neg (by simp only [World.size_alloc]; omega), heap_push, if_neg (by omega)]; exact (hb1.block _ (by simp)).trans ((heap_push _ _ _).trans (if_pos rfl)))),
     (HB4.out.block _ (by simp only [World.size_alloc]; omega)).trans ((heap_push _ _ _).trans (by rw [if_neg (by simp only [World.size_alloc]; omega), heap_push, if_pos rfl])),
     ⟨0, .map [], Nat.le_refl _, map_below (map_made _ _ (by simp)) HB4.out, saysP_start _⟩,
     by rw [← made_ptr]; exact ho4, fun i q g h => by simp at h⟩)
  obtain ⟨go, hgo⟩ : ∃ go, go = w1.heap.size + 1 + 1 := ⟨_, rfl⟩
  obtain ⟨bm, hbm⟩ : ∃ bm, bm = w1.heap.size + 1 := ⟨_, rfl⟩
  have hst := HST.out
  have HRWZ := hzv
  rw [← hgo, ← hbm] at hst
  rw [← hgo, ← hbm]
  have HST := Lib.hid hst
  have hBm : w.heap.size ≤ bm := by have := hb1w.size; omega
  have hBm0 := hBm
  have hgoB : w.heap.size ≤ go := by have := hb1w.size; omega
  obtain ⟨g3, hg3⟩ : ∃ g3, g3 = w.heap.size := ⟨_, rfl⟩
  obtain ⟨g7, hg7⟩ : ∃ g7, g7 = w1.heap.size := ⟨_, rfl⟩
  obtain ⟨B, hB⟩ : ∃ B, B = w.heap.size := ⟨_, rfl⟩
  have hst := HST.out
  rw [← hg7] at hst
  rw [← hg7]
  have HST := Lib.hid (show CLInv B vb glyphs n 0 g3 g7 bm go (.slice a N c) (.slice a P c) [] [] w4 by rw [hB, hg3]; exact hst)
  have HBW := Lib.hid (show Below B w w4 by rw [hB]; exact HBW.out)
  have hBz : B ≤ w4.heap.size := by rw [hB]; exact HBW.out.size
  have HHB := Lib.hid (show ∀ W, Below B w W → Has W a (bytesV vb) from fun W hW => HH.out.below (by rw [← hB]; exact hW))
  have hBm5 : B ≤ bm := by rw [hB]; exact hBm
  have hgoB5 : B ≤ go := by rw [hB]; exact hgoB
  have hwB : B ≤ w.heap.size := by rw [hB]; exact Nat.le_refl _
  rw [show w.heap.size = g3 from hg3.symm]
  have HBE := Lib.hid hB
  clear hst hB hg3 hg7 hgo hbm hzv ho4 hb1w HRWZ HO4 HB4 hb1 h1c h1f h1z HRW
  go_wp2_with fail
  go_loopw [19] (fun i wr => ∃ (qs : List (List RP)) (ps : List Nat), ps.length ≤ n ∧ i = .int .i64 (ps.length : Nat) ∧ CLInv B vb glyphs n ps.length g3 g7 bm go (.slice a N c) (.slice a P c) qs ps wr ∧ Below B w wr) (fun i _ => n - (RowKit.intOf i).toNat)
  case atStart => exact ⟨[], [], Nat.zero_le _, rfl, HST.out, HBW.out⟩
  case round =>
    obtain ⟨qs, ps, hk, rfl, hi, hb⟩ := hrel
    rename World => wr
    have HB := Lib.hid hb
    obtain ⟨k, hkp⟩ : ∃ k, k = ps.length := ⟨_, rfl⟩
    have HKP := Lib.hid hkp
    rw [← hkp] at hk hi ⊢
    have HI := Lib.hid hi
    obtain ⟨m, D, hm, ho, hsy⟩ := hi.map
    have c3 := cell_of_heap hi.h3 0
    have c7 := cell_of_heap hi.h7 0
    simp only [List.getElem?_toArray, List.getElem?_cons_zero] at c3 c7
    have l3 := (Array.getElem?_eq_some_iff.1 hi.h3).1
    have l7 := (Array.getElem?_eq_some_iff.1 hi.h7).1
    have HOM := Lib.hid ho
    have HSY := Lib.hid hsy
    have hBr : B ≤ wr.heap.size := Nat.le_trans hwB hb.size
    clear hi hb ho hsy hkp
    by_cases hlt : k < n
    · obtain ⟨z, hz⟩ : ∃ z, num vb (4 * k) 4 = z := ⟨_, rfl⟩
      have hz4 := num4_lt vb (4 * k)
      have hPP := HPP.out
      have HU := Lib.hid (show ∀ W, Below B w W → Calls Try.prog 58 #[.agg #[.slice a P c], .int .i64 ((k : Int) * 4)] W fun e w' => e = .returned (.int .i64 (z : Nat)) ∧ Below W.heap.size W w' from fun W hW => by
        have := u32_z a P c (4 * k) ((k : Int) * 4) (by omega) (vb.take P) W (by have := (HHB.out W hW).take P; rwa [bytesV_take] at this) (by rw [List.length_take, HL.out]; omega) (by omega) (by omega) hc
        rwa [num_takeS vb P (4 * k) 4 (by omega), hz] at this)
      rw [hz] at hz4
      have HZ := Lib.hid hz
      clear hz hPP
      obtain ⟨o, ho1, ho2⟩ := HSY.out.2 (z : Nat)
      have hwf : wfQ (z : Nat) := wfQ_of (by omega) (by omega)
      have HU1 := Lib.hid (HU.out wr HB.out)
      have HZ4 := Lib.hid (show num vb (4 * ps.length) 4 = z from by rw [← HKP.out]; exact HZ.out)
      cases o with
      | some g =>
        have HLG := Lib.hid (ho2 g rfl)
        clear ho2 HU
        go_wp2_with (first
          | (go_at_call 58
             (with_reducible refine HU1.out.mono ?_)
             rintro e w2 ⟨rfl, hb2⟩
             have HI2 := Lib.hid (HI.out.below hb2)
             have HOM2 := Lib.hid (map_below HOM.out hb2)
             have HLG2 := Lib.hid (HLG.out.below hb2)
             have HB2 := Lib.hid (HB.out.trans (hb2.mono hBr))
             obtain ⟨g0, cs0, u0, he0, _, hh0, hc0, _, hf0, _⟩ := row_at HI2.out.row k (by omega)
             obtain rfl : go = g0 := by injection he0 with he0; injection he0
             have l0 := (Array.getElem?_eq_some_iff.1 hh0).1
             clear hb2 hh0 he0)
          | (at_lookup; refine wpLookP rfl _ _ _ rfl Try.underlying154 bm m D rfl HOM2.out (z : Nat) rfl hwf (some g) ho1 ?_; simp only [ptrV]))
        go_roundw
        case rel =>
          obtain ⟨q, hq⟩ := HI2.out.stored (by rw [← HKP.out]; exact hlt) g (by rw [HZ4.out]; exact HLG2.out)
          rw [← HKP.out] at hq
          exact ⟨qs ++ [q], ps ++ [g], by simp [← HKP.out]; omega, by simp [← HKP.out], by rw [show (ps ++ [g]).length = k + 1 by simp [← HKP.out]]; exact hq.more (by omega), HB2.out.setCell (p := ⟨go, k, none⟩) (by omega) _⟩
        case measure => simp only [RowKit.intOf]; omega
      | none =>
        have hr0 : ∀ qs, (∀ q, ¬ LkOk (vb.drop z) glyphs 2 q) ∨ ¬ z ≤ N → ¬ ListOk vb glyphs n qs := by
          intro qs hno ho
          obtain ⟨q, hq⟩ : ∃ q, qs[k]? = some q := ⟨_, List.getElem?_eq_getElem (by rw [ho.len]; exact hlt)⟩
          have := ho.each k q hq
          rw [HZ.out, HL.out] at this
          rcases hno with hno | hno
          · exact hno q this.2
          · exact hno this.1
        have HR0 := Lib.hid hr0
        clear ho2 HU hr0
        by_cases hzN : z ≤ N
        case neg =>
          have HRB := Lib.hid (fun W => rest_bad a N c (z : Nat) W (.inr (by omega)))
          have HNO := Lib.hid (fun qs => HR0.out qs (.inr hzN))
          clear hzN
          go_wp2_with (first
            | (go_at_call 58
               (with_reducible refine HU1.out.mono ?_)
               rintro e w2 ⟨rfl, hb2⟩
               have HI2 := Lib.hid (HI.out.below hb2)
               have HOM2 := Lib.hid (map_below HOM.out hb2)
               have HB2 := Lib.hid (HB.out.trans (hb2.mono hBr))
               have c32 := cell_of_heap HI2.out.h3 0
               simp only [List.getElem?_toArray, List.getElem?_cons_zero] at c32
               have l32 := (Array.getElem?_eq_some_iff.1 HI2.out.h3).1
               have hz2 := Nat.le_trans hwB HB2.out.size
               clear hb2)
            | (at_lookup; refine wpLookP rfl _ _ _ rfl Try.underlying154 bm m D rfl HOM2.out (z : Nat) rfl hwf none ho1 ?_; simp only [ptrV])
            | (go_at_call 57; (with_reducible refine (HRB.out _).mono ?_); rintro e w3 ⟨rfl, hb3⟩; have h3c := bc hb3; have h3f := bf hb3; have h3z := hb3.size; try simp only [World.size_alloc, World.size_drew] at h3z))
          exact ⟨rfl, .inr ⟨HNO.out, rfl⟩, HBE.out ▸ HB2.out.trans (hb3.mono (by omega))⟩
        have HRO := Lib.hid (fun W => rest_ok a N c z W hzN hnc hc)
        by_cases hok : ∃ q, LkOk (vb.drop z) glyphs 2 q
        case neg =>
          have HNO := Lib.hid (fun qs => HR0.out qs (.inl fun q hq => hok ⟨q, hq⟩))
          have HTK := Lib.hid (fun W (hW : Below B w W) => show Calls Try.prog 67 #[.agg #[.slice (adv a c z) (N - z) (c - z)], .int .i64 (glyphs : Nat), .int .i64 2] W fun e w' => e = .panicked thrown ∧ Below W.heap.size W w' from take_bad (adv a c z) (N - z) (c - z) (vb.drop z) glyphs 2 W (by have := (HHB.out W hW).adv c z (by rw [bytesV_length, HL.out]; exact hnc); rwa [bytesV_drop] at this) (by rw [List.length_drop, HL.out]) (by omega) (by omega) hg1 hg2 (.inl rfl) (fun q hq => hok ⟨q, hq⟩))
          clear hok
          go_wp2_with (first
            | (go_at_call 58
               (with_reducible refine HU1.out.mono ?_)
               rintro e w2 ⟨rfl, hb2⟩
               have HI2 := Lib.hid (HI.out.below hb2)
               have HOM2 := Lib.hid (map_below HOM.out hb2)
               have HB2 := Lib.hid (HB.out.trans (hb2.mono hBr))
               have HW2 := Lib.hid hb2
               have c32 := cell_of_heap HI2.out.h3 0
               simp only [List.getElem?_toArray, List.getElem?_cons_zero] at c32
               have l32 := (Array.getElem?_eq_some_iff.1 HI2.out.h3).1
               have hz2 := Nat.le_trans hwB HB2.out.size
               clear hb2)
            | (at_lookup; refine wpLookP rfl _ _ _ rfl Try.underlying154 bm m D rfl HOM2.out (z : Nat) rfl hwf none ho1 ?_; simp only [ptrV])
            | (go_at_call 57; (with_reducible refine (HRO.out _).mono ?_); rintro e w3 ⟨rfl, hb3⟩; have HB3 := Lib.hid (HB2.out.trans (hb3.mono hz2)); have hz3 := Nat.le_trans hwB HB3.out.size; have HW3 := Lib.hid hb3; clear hb3)
            | (go_at_call 67; (with_reducible refine (HTK.out _ HB3.out).mono ?_); rintro e w4 ⟨rfl, hb4⟩; have h4c := bc hb4; have h4f := bf hb4; have h4z := hb4.size; try simp only [World.size_alloc, World.size_drew] at h4z))
          exact ⟨rfl, .inr ⟨HNO.out, rfl⟩, HBE.out ▸ HB3.out.trans (hb4.mono hz3)⟩
        obtain ⟨q, hok⟩ := hok
        have HOK := Lib.hid hok
        have HTK := Lib.hid (fun W (hW : Below B w W) => show Calls Try.prog 67 #[.agg #[.slice (adv a c z) (N - z) (c - z)], .int .i64 (glyphs : Nat), .int .i64 2] W fun e w' => ∃ g, e = .returned (.pointer (some ⟨g, 0, none⟩)) ∧ TabIs W.heap.size g (num (vb.drop z) 0 2) (tabR (vb.drop z) q).1 (tabR (vb.drop z) q).2 w' ∧ Below W.heap.size W w' from take_ok (adv a c z) (N - z) (c - z) (vb.drop z) glyphs 2 q W (by have := (HHB.out W hW).adv c z (by rw [bytesV_length, HL.out]; exact hnc); rwa [bytesV_drop] at this) (by rw [List.length_drop, HL.out]) (by omega) (by omega) hg1 hg2 (.inl rfl) hok)
        clear hok
        go_wp2_with (first
            | (go_at_call 58
               (with_reducible refine HU1.out.mono ?_)
               rintro e w2 ⟨rfl, hb2⟩
               have HI2 := Lib.hid (HI.out.below hb2)
               have HOM2 := Lib.hid (map_below HOM.out hb2)
               have HB2 := Lib.hid (HB.out.trans (hb2.mono hBr))
               have HW2 := Lib.hid hb2
               have c32 := cell_of_heap HI2.out.h3 0
               simp only [List.getElem?_toArray, List.getElem?_cons_zero] at c32
               have l32 := (Array.getElem?_eq_some_iff.1 HI2.out.h3).1
               have hz2 := Nat.le_trans hwB HB2.out.size
               clear hb2)
            | (at_lookup; refine wpLookP rfl _ _ _ rfl Try.underlying154 bm m D rfl HOM2.out (z : Nat) rfl hwf none ho1 ?_; simp only [ptrV])
            | (go_at_call 57; (with_reducible refine (HRO.out _).mono ?_); rintro e w3 ⟨rfl, hb3⟩; have HB3 := Lib.hid (HB2.out.trans (hb3.mono hz2)); have hz3 := Nat.le_trans hwB HB3.out.size; have HW3 := Lib.hid hb3; clear hb3)
            | (go_at_call 67
               (with_reducible refine (HTK.out _ HB3.out).mono ?_)
               rintro e w4 ⟨g, rfl, hT, hb4⟩
               have hb24 := HW3.out.trans (hb4.mono HW3.out.size)
               have HI4 := Lib.hid (HI2.out.below hb24)
               have HOM4 := Lib.hid (map_below HOM2.out hb24)
               have HSY4 := Lib.hid (HSY.out.imp fun z g h => (h.below HW2.out).below hb24)
               have HLG4 := Lib.hid (show LkG B vb glyphs w4 (z : Nat) g from ⟨q, _, by rw [Int.toNat_natCast, HL.out]; exact hzN, by rw [Int.toNat_natCast]; exact HOK.out, by rw [Int.toNat_natCast]; exact hT.monoM hz3⟩)
               have HB4 := Lib.hid (HB2.out.trans (hb24.mono hz2))
               clear hT hb4 hb24)
            | (at_mapUpdate
               refine wpList_mapUpdate_own _ rfl _ _ _ 154 rfl 3 123 lawQ Try.underlying154 ptrR bm m D rfl HOM4.out (by unfold maxLen; omega) _ _ (kQ (z : Nat)) rfl rfl (keyQ hwf) (ptrD (some g)) [] (ptrR_mk (some g)) ?_
               intro w5 ho5 hg5
               have HI5 := Lib.hid (HI4.out.mapped hBm5 HOM4.out hm HSY4.out HLG4.out ho5 hg5)
               have HLG5 := Lib.hid (HLG4.out.mapped hBm5 HOM4.out hg5)
               have HOM5 := Lib.hid ho5
               have HB5 := Lib.hid (HB4.out.grown hg5 (Nat.le_trans hwB HB4.out.size) (fun k hk => by injection hk with hk; omega))
               obtain ⟨g0, cs0, u0, he0, _, hh0, hc0, _, hf0, _⟩ := row_at HI5.out.row k (by omega)
               obtain rfl : go = g0 := by injection he0 with he0; injection he0
               have l0 := (Array.getElem?_eq_some_iff.1 hh0).1
               clear ho5 hg5 hh0 he0)
            | (at_lookup; refine wpLookP rfl _ _ _ rfl Try.underlying154 bm (m + 1) _ rfl HOM5.out (z : Nat) rfl hwf (some g) (HSY.out.at _ _) ?_; simp only [ptrV]))
        go_roundw
        case rel =>
          obtain ⟨q, hq⟩ := HI5.out.stored (by rw [← HKP.out]; exact hlt) g (by rw [HZ4.out]; exact HLG5.out)
          rw [← HKP.out] at hq
          exact ⟨qs ++ [q], ps ++ [g], by simp [← HKP.out]; omega, by simp [← HKP.out], by rw [show (ps ++ [g]).length = k + 1 by simp [← HKP.out]]; exact hq, HB5.out.setCell (p := ⟨go, k, none⟩) (by omega) _⟩
        case measure => simp only [RowKit.intOf]; omega
    · obtain rfl : n = k := by omega
      have HQ := Lib.hid (show ListOk vb glyphs n qs from ⟨by have := HPP.out; rw [HL.out]; omega, by rw [HI.out.len, ← HKP.out], fun i q hq => by
        have hlt := (List.getElem?_eq_some_iff.1 hq).1
        rw [HI.out.len] at hlt
        exact (HI.out.tabs i q _ hq (List.getElem?_eq_getElem hlt)).1⟩)
      go_wp2_with fail
      go_ret
      refine ⟨.inl ⟨qs, ps, go, HQ.out, rfl, ?_, ⟨HI.out.len.symm, fun i q g h1 h2 => ?_⟩⟩, HBE.out ▸ HB.out⟩
      · have := HI.out.row
        rw [rowP_all ps n HKP.out.symm] at this
        exact HBE.out ▸ this
      · have := (HI.out.tabs i q g h1 h2).2
        exact HBE.out ▸ this
end Go.Proofs.Ytcegoenlajkgfaa
end
section

/- ctx.asked: how many lookups some entries ask for. Conditions: entries as their bytes tell them. -/
namespace Go.Proofs.Ytcegoenlajkgfaa
open Go.RowKit Go.Lib

theorem ent_at {w : World} {a : Option Addr} {vb : List UInt8} {k n : Nat} (h : Has w a (entsV vb k n)) {j : Nat} (hj : j < n) : ∃ g o, a = some ⟨g, o, none⟩ ∧ g < w.heap.size ∧
    w.cell? ⟨g, o + j * 4, none⟩ = some (.int .i64 ((entX vb k j).1 : Nat)) ∧ w.cell? ⟨g, o + j * 4 + 1, none⟩ = some (.int .i64 ((entX vb k j).2.1 : Nat)) ∧ w.cell? ⟨g, o + j * 4 + 2, none⟩ = some (.int .i64 ((entX vb k j).2.2.1 : Nat)) ∧ w.cell? ⟨g, o + j * 4 + 3, none⟩ = some (.int .i64 ((entX vb k j).2.2.2 : Nat)) := by
  have hlen : 0 < (entsV vb k n).length := by
    have := entsV_get vb k n j 0 hj (by omega)
    rcases Nat.eq_zero_or_pos (entsV vb k n).length with h0 | h0
    · rw [List.getElem?_eq_none (by omega)] at this
      simp [entV] at this
    · exact h0
  obtain ⟨g, o, ha, hg, hx⟩ := h.get hlen
  have e0 : (entsV vb k n)[j * 4]? = some (.int .i64 ((entX vb k j).1 : Nat)) := by have := entsV_get vb k n j 0 hj (by omega); rw [Nat.add_zero] at this; exact this
  have e1 : (entsV vb k n)[j * 4 + 1]? = some (.int .i64 ((entX vb k j).2.1 : Nat)) := entsV_get vb k n j 1 hj (by omega)
  have e2 : (entsV vb k n)[j * 4 + 2]? = some (.int .i64 ((entX vb k j).2.2.1 : Nat)) := entsV_get vb k n j 2 hj (by omega)
  have e3 : (entsV vb k n)[j * 4 + 3]? = some (.int .i64 ((entX vb k j).2.2.2 : Nat)) := entsV_get vb k n j 3 hj (by omega)
  exact ⟨g, o, ha, hg, hx _ _ e0, by rw [Nat.add_assoc]; exact hx _ _ e1, by rw [Nat.add_assoc]; exact hx _ _ e2, by rw [Nat.add_assoc]; exact hx _ _ e3⟩
set_option maxRecDepth 100000 in
set_option maxHeartbeats 3200000 in
theorem asked_any (a : Option Addr) (n c : Nat) (bs : List UInt8) (w : World) (h : Has w a (entsV (bs.drop (num bs 12 4)) 2 n)) (hn : n ≤ 65536) :
    Calls Try.prog 60 #[.slice a n c] w fun e w' => e = .returned (.int .i64 (cntC bs n : Nat)) ∧ Below w.heap.size w w' := by
  have hAC := allocC
  have hAF := allocF
  have HH := Lib.hid h
  clear h
  go_enter Try.func60, Try.ntmps60
  go_wp2_with fail
  go_loopw [3, 8] (fun m i wr => ∃ j : Nat, j ≤ n ∧ m = .int .i64 (cntC bs j : Nat) ∧ i = .int .i64 (j : Nat) ∧ Below w.heap.size w wr) (fun _ i _ => n - (RowKit.intOf i).toNat)
  case atStart => exact ⟨0, Nat.zero_le _, rfl, rfl, Below.refl _ _⟩
  case round =>
    obtain ⟨j, hj, rfl, rfl, hb⟩ := hrel
    rename World => wr
    have HB := Lib.hid hb
    clear hb
    by_cases hlt : j < n
    · obtain ⟨g, o, rfl, hg, c0, c1, c2, c3⟩ := ent_at (HH.out.below HB.out) hlt
      have hle := entX_le (bs.drop (num bs 12 4)) 2 j
      have hcn : cntC bs (j + 1) = max (max (cntC bs j) (cwX (entX (bs.drop (num bs 12 4)) 2 j).2.2.1)) (cwX (entX (bs.drop (num bs 12 4)) 2 j).2.2.2) := rfl
      have hc65 := cntC_65 bs j
      generalize entX (bs.drop (num bs 12 4)) 2 j = E at *
      obtain ⟨e0, F, A, Bv⟩ := E
      simp only at c0 c1 c2 c3 hle hcn
      obtain ⟨_, _, hA6, hB6⟩ := hle
      have HCN := Lib.hid hcn
      clear hcn
      generalize cntC bs j = c0 at *
      by_cases hA : A = 65535
      · have dA : ((A : Int) == 65535) = true := by simp; omega
        have dA2 : ((A : Int) != 65535) = false := by simp; omega
        have hcA : cwX A = 0 := by unfold cwX; rw [if_pos hA]
        by_cases hB : Bv = 65535
        · have dB : ((Bv : Int) == 65535) = true := by simp; omega
          have dB2 : ((Bv : Int) != 65535) = false := by simp; omega
          have hcB : cwX Bv = 0 := by unfold cwX; rw [if_pos hB]
          have HE := Lib.hid (show cntC bs (j + 1) = c0 by have := HCN.out; omega)
          clear hA hB hcA hcB HCN
          go_wp2_with fail
          go_roundw
          case rel => exact ⟨j + 1, hlt, by rw [HE.out], by go_num, HB.out.trans (Below.mono (balloc (brefl _) _) HB.out.size)⟩
          case measure => simp only [RowKit.intOf]; omega
        · have dB : ((Bv : Int) == 65535) = false := by simp; omega
          have dB2 : ((Bv : Int) != 65535) = true := by simp; omega
          have hcB : cwX Bv = Bv + 1 := by unfold cwX; rw [if_neg hB]
          have HE := Lib.hid (show cntC bs (j + 1) = max c0 (Bv + 1) by have := HCN.out; omega)
          clear hA hB hcA hcB HCN
          go_wp2_with fail
          go_roundw
          case rel => exact ⟨j + 1, hlt, by rw [HE.out]; congr 1; try (split <;> omega), by go_num, HB.out.trans (Below.mono (balloc (brefl _) _) HB.out.size)⟩
          case measure => simp only [RowKit.intOf]; omega
      · have dA : ((A : Int) == 65535) = false := by simp; omega
        have dA2 : ((A : Int) != 65535) = true := by simp; omega
        have hcA : cwX A = A + 1 := by unfold cwX; rw [if_neg hA]
        by_cases hB : Bv = 65535
        · have dB : ((Bv : Int) == 65535) = true := by simp; omega
          have dB2 : ((Bv : Int) != 65535) = false := by simp; omega
          have hcB : cwX Bv = 0 := by unfold cwX; rw [if_pos hB]
          have HE := Lib.hid (show cntC bs (j + 1) = max c0 (A + 1) by have := HCN.out; omega)
          clear hA hB hcA hcB HCN
          go_wp2_with fail
          go_roundw
          case rel => exact ⟨j + 1, hlt, by rw [HE.out]; congr 1; try (split <;> omega), by go_num, HB.out.trans (Below.mono (balloc (brefl _) _) HB.out.size)⟩
          case measure => simp only [RowKit.intOf]; omega
        · have dB : ((Bv : Int) == 65535) = false := by simp; omega
          have dB2 : ((Bv : Int) != 65535) = true := by simp; omega
          have hcB : cwX Bv = Bv + 1 := by unfold cwX; rw [if_neg hB]
          have HE := Lib.hid (show cntC bs (j + 1) = max (max c0 (A + 1)) (Bv + 1) by have := HCN.out; omega)
          clear hA hB hcA hcB HCN
          go_wp2_with fail
          go_roundw
          case rel => exact ⟨j + 1, hlt, by rw [HE.out]; congr 1; try (split <;> (try split) <;> omega), by go_num, HB.out.trans (Below.mono (balloc (brefl _) _) HB.out.size)⟩
          case measure => simp only [RowKit.intOf]; omega
    · obtain rfl : n = j := by omega
      go_wp2_with fail
      go_ret
      exact ⟨rfl, HB.out⟩
end Go.Proofs.Ytcegoenlajkgfaa
end
