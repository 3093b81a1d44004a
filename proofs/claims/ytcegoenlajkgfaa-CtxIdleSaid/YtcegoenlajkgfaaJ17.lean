/- Joined from: CWrite XRun XRead CEight DEnt DBits DSpec KSwap KSpec KRead KLaw. -/
import Derived.Test.YtcegoenlajkgfaaJ14
import Derived.Test.YtcegoenlajkgfaaJ04
import Derived.Test.YtcegoenlajkgfaaJ03
import Derived.Test.YtcegoenlajkgfaaJ16
import Derived.Test.YtcegoenlajkgfaaJ08
import Derived.Test.YtcegoenlajkgfaaJ15
import Derived.Test.YtcegoenlajkgfaaJ01
import Derived.Test.YtcegoenlajkgfaaJ12
import Derived.Deep.WholeRow
section

/- The bytes of a subtable of layer 15 as its law writes them: swashlaw15.Write. Conditions: a machine's plan and lookups in memory; sizes. -/
namespace Go.Proofs.Ytcegoenlajkgfaa
open Go.RowKit Go.Lib

/-- Two rows of bytes that lie apart, as slots. -/
def Two2 (B : Nat) (x1 x2 : List UInt8) (v1 v2 : Value) (w : World) : Prop := ∃ a1 c1 a2 c2, v1 = .slice a1 x1.length c1 ∧ v2 = .slice a2 x2.length c2 ∧ Two B w a1 x1.length c1 x1 a2 x2.length c2 x2
theorem Two2.swap {B : Nat} {x1 x2 : List UInt8} {v1 v2 : Value} {w : World} (h : Two2 B x1 x2 v1 v2 w) : Two2 B x2 x1 v2 v1 w := by
  obtain ⟨a1, c1, a2, c2, h1, h2, h3⟩ := h
  exact ⟨a2, c2, a1, c1, h2, h1, h3.swap⟩
theorem Two2.putA {B v size : Nat} (z y : Int) (hz : z = (v : Nat)) (hy : y = (size : Nat)) {x1 x2 : List UInt8} {v1 v2 : Value} {w : World} (h : Two2 B x1 x2 v1 v2 w) (hB : B ≤ w.heap.size) (hv : v < 9223372036854775808) (hn : x1.length ≤ 1000000000) (hs : size ≤ 8) :
    Calls Try.prog 39 #[v1, .int .i64 z, .int .i64 y] w fun e w' => ∃ s, e = .returned s ∧ Two2 B (x1 ++ beN size v) x2 s v2 w' ∧ Below B w w' := by
  obtain ⟨a1, c1, a2, c2, rfl, rfl, h3⟩ := h
  refine (put_z B a1 x1.length c1 v size z y hz hy x1 w h3.o1 hB hv hn hs).mono ?_
  rintro e w' ⟨a', c', rfl, g2, _, _, _, g6, _, g8⟩
  have hl : (x1 ++ beN size v).length = x1.length + size := by rw [List.length_append, beN_length]
  exact ⟨_, rfl, ⟨a', c', a2, c2, by rw [hl], rfl, by rw [hl]; exact h3.put1 g8 g2⟩, g6⟩
theorem Two2.putB {B v size : Nat} (z y : Int) (hz : z = (v : Nat)) (hy : y = (size : Nat)) {x1 x2 : List UInt8} {v1 v2 : Value} {w : World} (h : Two2 B x1 x2 v1 v2 w) (hB : B ≤ w.heap.size) (hv : v < 9223372036854775808) (hn : x2.length ≤ 1000000000) (hs : size ≤ 8) :
    Calls Try.prog 39 #[v2, .int .i64 z, .int .i64 y] w fun e w' => ∃ s, e = .returned s ∧ Two2 B x1 (x2 ++ beN size v) v1 s w' ∧ Below B w w' := by
  refine (h.swap.putA z y hz hy hB hv hn hs).mono ?_
  rintro e w' ⟨s, rfl, g1, g2⟩
  exact ⟨s, rfl, g1.swap, g2⟩
/-- A lookup of glyphs from 0 on, in a row. -/
def vals16 (l : List Nat) : List UInt8 := l.flatMap fun x => beN 2 x
def sub8 (l : List Nat) : List UInt8 := beN 2 8 ++ beN 2 0 ++ beN 2 l.length ++ vals16 l
def lksB (subs : List (List Nat)) : List UInt8 := subs.flatMap sub8
def offsB (m : Nat) (subs : List (List Nat)) (j : Nat) : List UInt8 := (List.range j).flatMap fun i => beN 4 (4 * m + (lksB (subs.take i)).length)
def ctxB (p : PlanL) (subs : List (List Nat)) : List UInt8 :=
  splice (planB p 2 4 ++ offsB subs.length subs subs.length) 16 (beN 4 (planB p 2 4).length) ++ lksB subs
theorem vals16_length (l : List Nat) : (vals16 l).length = 2 * l.length := by
  induction l with
  | nil => rfl
  | cons x l ih => simp only [vals16, List.flatMap_cons, List.length_append, beN_length, List.length_cons] at *; omega
theorem sub8_length (l : List Nat) : (sub8 l).length = 6 + 2 * l.length := by
  simp only [sub8, List.length_append, beN_length, vals16_length]
theorem vals16_snoc (l : List Nat) (q : Nat) (h : q < l.length) : vals16 (l.take (q + 1)) = vals16 (l.take q) ++ beN 2 (l.getD q 0) := by
  unfold vals16
  rw [List.take_add_one, List.flatMap_append, List.getElem?_eq_getElem h, List.getD_eq_getElem?_getD, List.getElem?_eq_getElem h]
  simp
theorem lksB_snoc (subs : List (List Nat)) (j : Nat) (r : List Nat) (h : subs[j]? = some r) : lksB (subs.take (j + 1)) = lksB (subs.take j) ++ sub8 r := by
  unfold lksB
  rw [List.take_add_one, List.flatMap_append, h]
  simp
theorem offsB_snoc (m : Nat) (subs : List (List Nat)) (j : Nat) : offsB m subs (j + 1) = offsB m subs j ++ beN 4 (4 * m + (lksB (subs.take j)).length) := by
  unfold offsB
  rw [List.range_succ, List.flatMap_append]
  simp
theorem offsB_length (m : Nat) (subs : List (List Nat)) : ∀ j, (offsB m subs j).length = 4 * j
  | 0 => rfl
  | j + 1 => by rw [offsB_snoc, List.length_append, offsB_length m subs j, beN_length]; omega
theorem lksB_le (subs : List (List Nat)) (h : ∀ r ∈ subs, r.length ≤ 100) : (lksB subs).length ≤ 206 * subs.length := by
  induction subs with
  | nil => simp [lksB]
  | cons r l ih =>
    have h1 := h r (by simp)
    have h2 := ih (fun x hx => h x (by simp [hx]))
    simp only [lksB, List.flatMap_cons, List.length_append, List.length_cons, sub8_length] at *
    omega
theorem lksB_take (subs : List (List Nat)) (h : ∀ r ∈ subs, r.length ≤ 100) (j : Nat) : (lksB (subs.take j)).length ≤ 206 * subs.length := by
  have := lksB_le (subs.take j) (fun r hr => h r (List.mem_of_mem_take hr))
  rw [List.length_take] at this
  omega
theorem planB_len1 (p : PlanL) (hC : p.cls.length ≤ 1000) (hR : p.rows.length ≤ 1000) (hE : p.ents.length ≤ 1000) : 26 ≤ (planB p 2 4).length ∧ (planB p 2 4).length ≤ 100000 := by
  have h1 : (planB p 2 4).length = 22 + 4 + 2 * p.cls.length + 2 * (p.rows.length * p.n) + p.ents.length * 8 := by
    simp only [planB, ofB, List.length_append, beN_length, List.length_replicate, clsB_length, rowsPB_length, entsPB_length 2 _ (by decide)]
    omega
  have h2 : p.rows.length * p.n ≤ 1000 * 11 := Nat.mul_le_mul hR (by unfold PlanL.n; omega)
  omega
/-- Lookups' numbers in memory. -/
structure SubsHas (w : World) (aS : Option Addr) (subs : List (List Nat)) (sv : List Value) : Prop where
  has : Has w aS sv
  len : sv.length = subs.length
  each : ∀ (i : Nat) (r : List Nat), subs[i]? = some r → ∃ (ai : Option Addr) (ci : Nat), sv[i]? = some (Value.slice ai r.length ci) ∧ Has w ai (u16V r)
theorem SubsHas.below {w w' : World} {aS : Option Addr} {subs : List (List Nat)} {sv : List Value} (h : SubsHas w aS subs sv) (hb : Below w.heap.size w w') : SubsHas w' aS subs sv :=
  ⟨h.has.below hb, h.len, fun i r hr => by obtain ⟨ai, ci, h1, h2⟩ := h.each i r hr; exact ⟨ai, ci, h1, h2.below hb⟩⟩
theorem splice_take {α : Type} (L cs : List α) (o n : Nat) (h : o + cs.length ≤ n) (hn : n ≤ L.length) : (splice L o cs).take n = splice (L.take n) o cs := by
  unfold splice
  rw [List.take_append, List.take_append, List.take_take, List.take_take, List.length_take, Nat.min_eq_left (by omega : o ≤ L.length), Nat.min_eq_right (by omega : o ≤ n), Nat.min_eq_left (by omega : o ≤ n), List.take_of_length_le (by omega : cs.length ≤ n - o), List.drop_take, Nat.sub_sub]
/-- 'copy' into the middle of a row of the call's own. -/
theorem wpCopyRow {P : Program} {w : World} {o : Oper} {a : Act} {K : Act → World → Prop} {Q : Exit → Act → World → Prop} (d s : Operand) (dT sT : TypeId)
    (ho : o.op = .call { callee := .builtin .copy, args := #[d, s], argTypes := #[dT, sT] }) (elem : TypeId) (hu : P.underlying dT = some (.slice elem)) (hsz : (P.info? elem).map (·.size) = some 1)
    (base g n c : Nat) (xs : List Value) (hown : w.ownsRow base elem 1 (.slice (some ⟨g, 0, none⟩) n c) n xs)
    (off dLen dCap : Nat) (ad : Addr) (sLen sCap : Nat) (hd : a.eval d = .slice (some ⟨g, off, none⟩) dLen dCap) (hs : a.eval s = .slice (some ad) sLen sCap)
    (cs : List Value) (hn : cs.length = Nat.min sLen dLen * 1) (hsrc : ∀ j v, cs[j]? = some v → w.cell? (ad.add j) = some v) (hfit : off + cs.length ≤ n) (h1 : ∀ v ∈ cs, v.oneCell' = true)
    (h : ∀ w', w'.ownsRow base elem 1 (.slice (some ⟨g, 0, none⟩) n c) n (splice xs off cs) → (∀ k, k ≠ g → w'.heap[k]? = w.heap[k]?) → w'.heap.size = w.heap.size → Below g w w' → K (a.put o.dst (goInt (Nat.min sLen dLen))) w') : o.wp P a w K Q := by
  rcases hown.2 with ⟨hv, _⟩ | ⟨b, cap, cur, hv, hg, hh, hnc, hm, hcs, hx⟩
  · cases hv
  · injection hv with e1 _ e3
    injection e1 with e1
    injection e1 with e1 _ _
    subst e1 e3
    have hl : xs.length = n := by have := hown.1; omega
    refine wpCopyO d s dT sT ho elem 1 hu hsz g off dLen dCap ad sLen sCap hd hs cur elem hh cs hn hsrc (by omega) h1 fun w' g1 g2 g3 g4 => h w' ⟨?_, .inr ⟨g, c, _, rfl, hg, g1, hnc, hm, ?_, ?_⟩⟩ g2 g3 g4
    · rw [length_splice xs off cs (by omega), hl]; omega
    · rw [List.size_toArray, length_splice cur.toList off cs (by rw [Array.length_toList (xs := cur)]; omega), Array.length_toList (xs := cur), hcs]
    · rw [Nat.mul_one] at hx ⊢
      rw [← hx]
      exact splice_take _ cs off n (by omega) (by rw [Array.length_toList (xs := cur)]; omega)
theorem u8_one : (Try.prog.info? 5).map (·.size) = some 1 := by kernel_rfl
theorem Two2.first {B : Nat} {x1 x2 : List UInt8} {v1 v2 : Value} {w : World} (h : Two2 B x1 x2 v1 v2 w) : ∃ a c, v1 = .slice a x1.length c ∧ Two2 B x1 x2 (.slice a x1.length c) v2 w := by
  obtain ⟨a1, c1, a2, c2, rfl, rfl, h3⟩ := h
  exact ⟨a1, c1, rfl, a1, c1, a2, c2, rfl, rfl, h3⟩
theorem owns_some {w : World} {base e size n c : Nat} {a : Option Addr} {xs : List Value} (h : w.ownsRow base e size (.slice a n c) n xs) (h0 : 0 < n) : ∃ g, a = some ⟨g, 0, none⟩ ∧ base ≤ g ∧ g < w.heap.size := by
  rcases h.2 with ⟨hv, h1⟩ | ⟨g, _, _, hv, hg, hh, _⟩
  · omega
  · injection hv with hv _ _
    exact ⟨g, hv, hg, (Array.getElem?_eq_some_iff.1 hh).1⟩
theorem bytesV_splice (X D : List UInt8) (o : Nat) : splice (bytesV X) o (bytesV D) = bytesV (splice X o D) := by
  simp [splice, bytesV, List.map_take, List.map_drop]
set_option maxRecDepth 100000 in
set_option maxHeartbeats 6400000 in
theorem write15_any (p : PlanL) (aC aR aE : Option Addr) (rv : List Value) (cC cR cE : Nat) (aS : Option Addr) (nS cS : Nat) (subs : List (List Nat)) (sv : List Value) (w : World) (h : PlanHas w p aC aR rv aE) (hC : p.cls.length ≤ 1000) (hR : p.rows.length ≤ 1000) (hE : p.ents.length ≤ 1000) (hwf : ∀ e ∈ p.ents, wfI e.1 ∧ wfI e.2.1 ∧ wfI e.2.2.1 ∧ wfI e.2.2.2)
    (hS : SubsHas w aS subs sv) (hnS : subs.length = nS) (hn1 : nS ≤ 100) (hlen : ∀ r ∈ subs, r.length ≤ 100) (h16 : ∀ r ∈ subs, ∀ x ∈ r, x ≤ 65535) :
    Calls Try.prog 14 #[.agg #[.slice aC p.cls.length cC, .slice aR p.rows.length cR, .slice aE p.ents.length cE, .int .u8 (p.wide.toNat : Nat)], .slice aS nS cS] w fun e w' => ∃ a' c', e = .returned (.slice a' (ctxB p subs).length c') ∧ w'.ownsRow w.heap.size 5 1 (.slice a' (ctxB p subs).length c') (ctxB p subs).length (bytesV (ctxB p subs)) ∧ (ctxB p subs).length ≤ c' ∧ c' ≤ maxLen ∧ (a' = none → c' = 0) ∧ Below w.heap.size w w' := by
  have hAC := allocC
  have hAF := allocF
  have HW := Lib.hid (fun W (hW : Below w.heap.size w W) => write_any p 2 4 2 4 rfl rfl aC aR aE rv cC cR cE W (h.below hW) hC hR hE (by omega) (by decide) hwf)
  have hL1 := planB_len1 p hC hR hE
  have hX1 := fun j => lksB_take subs hlen j
  have HSH := Lib.hid hS
  have HLEN := Lib.hid hlen
  have H16 := Lib.hid h16
  have HNS := Lib.hid hnS
  have HCB := Lib.hid (show ctxB p subs = splice (planB p 2 4 ++ offsB nS subs nS) 16 (beN 4 (planB p 2 4).length) ++ lksB subs from by unfold ctxB; rw [hnS])
  have HOL := Lib.hid (fun j => offsB_length nS subs j)
  rw [hnS] at hX1
  generalize planB p 2 4 = P at *
  generalize p.cls.length = nC at *
  generalize p.rows.length = nR at *
  generalize p.ents.length = nE at *
  generalize (p.wide.toNat : Int) = wd at *
  obtain ⟨N, hN⟩ : ∃ N, N = P.length := ⟨_, rfl⟩
  rw [← hN] at HW hL1 HCB
  have HN := Lib.hid hN
  clear h hS hlen h16 hnS hN hwf hC hR hE
  go_enter Try.func14, Try.ntmps14
  go_wp2_with (go_at_call 40; (with_reducible refine (HW.out _ (by exact blw)).mono ?_); rintro e w1 ⟨a1, c1, rfl, ho, k1, k2, k3, hb1⟩; have HO1 := Lib.hid (owns_mono ho (show w.heap.size ≤ _ from by simp only [World.size_alloc]; omega)); have HB1 := Lib.hid (show Below w.heap.size w w1 from by exact blw); clear ho k1 k2 k3 hb1)
  have hz1 := HB1.out.size
  have HT1 := Lib.hid (show Two2 w.heap.size (P ++ offsB nS subs 0) (lksB (subs.take 0)) (.slice a1 N c1) (.slice none 0 0) w1 from ⟨a1, c1, none, 0, by simp [offsB, HN.out], by simp [lksB], by
    have e1 : P ++ offsB nS subs 0 = P := by simp [offsB]
    rw [e1, ← HN.out]
    exact ⟨HO1.out, by simp only [lksB, List.take_zero, List.flatMap_nil, List.length_nil]; exact World.ownsRow_nil _ _ _ _, fun p q _ h => by cases h⟩⟩)
  clear HO1
  go_loopw [5, 7, 18] (fun b lk i wr => ∃ j : Nat, j ≤ nS ∧ i = .int .i64 (j : Nat) ∧ Two2 w.heap.size (P ++ offsB nS subs j) (lksB (subs.take j)) b lk wr ∧ Below w.heap.size w wr) (fun _ _ i _ => nS - (Go.RowKit.intOf i).toNat)
  case atStart => exact ⟨0, Nat.zero_le _, rfl, HT1.out, HB1.out⟩
  case round =>
    obtain ⟨j, hj, rfl, ht, hb⟩ := hrel
    rename World => wr
    have HB := Lib.hid hb
    have hzr := hb.size
    have hjl := hX1 j
    have hol : (P ++ offsB nS subs j).length = N + 4 * j := by rw [List.length_append, HOL.out, ← HN.out]
    obtain ⟨aL, cL, rfl, ht2⟩ := ht.swap.first
    have HT := Lib.hid ht2.swap
    clear ht ht2 hb
    by_cases hlt : j < nS
    · obtain ⟨r, hr⟩ : ∃ r, subs[j]? = some r := ⟨_, List.getElem?_eq_getElem (by rw [HNS.out]; exact hlt)⟩
      obtain ⟨ai, ci, hv, hrb⟩ := HSH.out.each j r hr
      obtain ⟨bR, oR, hbR, hblR, hcell⟩ := (HSH.out.has.below HB.out).get (by rw [HSH.out.len, HNS.out]; omega)
      have e0 := hcell j _ hv
      have HSN := Lib.hid (lksB_snoc subs j r hr)
      have HOS := Lib.hid (show P ++ offsB nS subs (j + 1) = P ++ offsB nS subs j ++ beN 4 (4 * nS + (lksB (subs.take j)).length) from by rw [offsB_snoc, List.append_assoc])
      have hrm := HLEN.out r (List.mem_of_getElem? hr)
      have HR16 := Lib.hid (H16.out r (List.mem_of_getElem? hr))
      have HRB := Lib.hid hrb
      have hsl : (sub8 r).length = 6 + 2 * r.length := sub8_length r
      have HS8 := Lib.hid (show sub8 r = beN 2 8 ++ beN 2 0 ++ beN 2 r.length ++ vals16 r from rfl)
      subst hbR
      clear hcell hv hrb hr
      generalize lksB (subs.take j) = X at *
      obtain ⟨XL, hXL⟩ : ∃ XL, XL = X.length := ⟨_, rfl⟩
      rw [← hXL] at hjl HT HOS ⊢
      have HXL := Lib.hid hXL
      generalize P ++ offsB nS subs j = Y at *
      generalize hrl : r.length = rl at *
      have HRL := Lib.hid hrl
      clear hrl hXL
      have HP1 := Lib.hid (Two2.putA (v := 4 * nS + XL) (size := 4) (4 * (nS : Int) + (XL : Int)) 4 (by omega) rfl HT.out hzr (by omega) (by omega) (by decide))
      go_wp2_with (first
        | (go_at_call 39; (with_reducible refine HP1.out.mono ?_); rintro e w2 ⟨s2, rfl, ht2, hb2⟩; have hz2 := Nat.le_trans hzr hb2.size; have HB2 := Lib.hid (HB.out.trans hb2); have HP2 := Lib.hid (Two2.putB (v := 8) (size := 2) 8 2 rfl rfl ht2 (by exact hz2) (by omega) (by rw [← HXL.out]; omega) (by decide)); clear ht2 hb2)
        | (go_at_call 39; (with_reducible refine HP2.out.mono ?_); rintro e w3 ⟨s3, rfl, ht3, hb3⟩; have hz3 := Nat.le_trans hz2 hb3.size; have HB3 := Lib.hid (HB2.out.trans hb3); have HP3 := Lib.hid (Two2.putB (v := 0) (size := 2) 0 2 rfl rfl ht3 (by exact hz3) (by omega) (by rw [List.length_append, beN_length, ← HXL.out]; omega) (by decide)); clear ht3 hb3)
        | (go_at_call 39; (with_reducible refine HP3.out.mono ?_); rintro e w4 ⟨s4, rfl, ht4, hb4⟩; have hz4 := Nat.le_trans hz3 hb4.size; have HB4 := Lib.hid (HB3.out.trans hb4); have HP4 := Lib.hid (Two2.putB (v := rl) (size := 2) (rl : Int) 2 rfl rfl ht4 (by exact hz4) (by omega) (by rw [List.length_append, List.length_append, beN_length, beN_length, ← HXL.out]; omega) (by decide)); clear ht4 hb4)
        | (go_at_call 39; (with_reducible refine HP4.out.mono ?_); rintro e w5 ⟨s5, rfl, ht5, hb5⟩; have HB5 := Lib.hid (HB4.out.trans hb5); have HT5 := Lib.hid ht5; clear ht5 hb5))
      go_loopw [7, 38] (fun lk i wu => ∃ q : Nat, q ≤ rl ∧ i = .int .i64 (q : Nat) ∧ Two2 w.heap.size (Y ++ beN 4 (4 * nS + XL)) (X ++ beN 2 8 ++ beN 2 0 ++ beN 2 rl ++ vals16 (r.take q)) s2 lk wu ∧ Below w.heap.size w wu) (fun _ i _ => rl - (Go.RowKit.intOf i).toNat)
      case atStart => exact ⟨0, Nat.zero_le _, rfl, by have := HT5.out; simpa [vals16] using this, HB5.out⟩
      case round =>
        obtain ⟨q, hq, rfl, ht, hb⟩ := hrel
        rename World => wu
        have HBU := Lib.hid hb
        have hzu := hb.size
        by_cases hlq : q < rl
        · have hHr := HRB.out.below hb
          obtain ⟨bI, oI, hbI, hblI, hcI⟩ := hHr.get (by rw [u16V_length, HRL.out]; omega)
          have e1 := hcI q _ (u16V_get r q (by rw [HRL.out]; exact hlq))
          have hx : r.getD q 0 ≤ 65535 := HR16.out _ (by rw [List.getD_eq_getElem?_getD, List.getElem?_eq_getElem (by rw [HRL.out]; exact hlq)]; exact List.getElem_mem _)
          have HVS := Lib.hid (vals16_snoc r q (by rw [HRL.out]; exact hlq))
          have hvl : (X ++ beN 2 8 ++ beN 2 0 ++ beN 2 rl ++ vals16 (r.take q)).length ≤ 100000 := by simp only [List.length_append, beN_length, vals16_length, List.length_take, ← HXL.out]; omega
          generalize r.getD q 0 = x at *
          have hc1 : IntKind.i64.wrap ((x : Nat) : Int) = (x : Int) := IntWalk.i64_in _ (by omega)
          have HP6 := Lib.hid (Two2.putB (v := x) (size := 2) (x : Int) 2 rfl rfl ht (by exact hzu) (by omega) (by omega) (by decide))
          subst hbI
          clear hcI hHr ht hb hvl
          go_wp2_with (first | (go_at_call 39; (with_reducible refine HP6.out.mono ?_); rintro e w6 ⟨s6, rfl, ht6, hb6⟩; have HT6 := Lib.hid ht6; have HB6 := Lib.hid (HBU.out.trans hb6); clear ht6 hb6))
          go_roundw
          case rel => exact ⟨q + 1, hlq, by go_num, by rw [HVS.out, ← List.append_assoc]; exact HT6.out, HB6.out⟩
          case measure => simp [Go.RowKit.intOf]; omega
        · obtain rfl : rl = q := by omega
          have HTU := Lib.hid ht
          clear ht hb
          go_wp2_with fail
          go_roundw
          case rel => exact ⟨j + 1, hlt, by go_num, by rw [HSN.out, HS8.out, HOS.out]; simp only [← List.append_assoc]; have := HTU.out; rwa [List.take_of_length_le (by rw [HRL.out]; exact Nat.le_refl _)] at this, HBU.out⟩
          case measure => simp [Go.RowKit.intOf]; omega
    · obtain rfl : nS = j := by omega
      have ht := HT.out
      rw [show subs.take nS = subs from List.take_of_length_le (by rw [HNS.out]; exact Nat.le_refl _)] at ht hjl
      obtain ⟨ab, cb, rfl, ht2⟩ := ht.first
      rw [show subs.take nS = subs from List.take_of_length_le (by rw [HNS.out]; exact Nat.le_refl _)] at *
      obtain ⟨a1', c1', a2', c2', e1, e2, htw⟩ := ht2
      rw [hol] at e1 htw
      injection e1 with e11 _ e12
      injection e2 with e21 _ e22
      subst e11 e12 e21 e22
      obtain ⟨_, _, e3, kb1, kb2, kb3⟩ := owns_slice htw.o1
      cases e3
      obtain ⟨_, _, e4, kl1, kl2, kl3⟩ := owns_slice htw.o2
      cases e4
      obtain ⟨LL, hLL⟩ : ∃ LL, LL = (lksB subs).length := ⟨_, rfl⟩
      rw [← hLL] at hjl htw kl1
      rw [hol, ← hLL]
      obtain ⟨gb, rfl, hgb1, hgb2⟩ := owns_some htw.o1 (by omega)
      have HTW := Lib.hid htw
      have HKL := Lib.hid kl3
      have HBL := Lib.hid hLL
      have HPN := Lib.hid (fun W => put_zz W.heap.size none 0 0 N 4 4 (N : Int) 4 rfl rfl rfl [] W (World.ownsRow_nil _ _ _ _) (Nat.le_refl _) (by omega) (by omega) (by omega))
      have HDL := Lib.hid (show (beN 4 N).length = 4 from beN_length 4 N)
      obtain ⟨M, hM⟩ : ∃ M, M = N + 4 * nS := ⟨_, rfl⟩
      rw [← hM] at HTW ⊢
      rw [← hM] at kb1
      have hM20 : 20 ≤ M := by omega
      have hMb : M ≤ 100400 := by omega
      have HM := Lib.hid hM
      have HPM := Lib.hid (hol.trans hM.symm)
      clear htw hLL hol HT ht kb3 kl3 hM
      go_wp2_with fail
      refine wp_region_last (.step 0 (.step 1 (.step 2 (.step 3 (.step 4 .nil))))) 4 (by kernel_rfl) (by kernel_rfl) (by kernel_rfl) (by kernel_rfl) (by kernel_rfl) (by intro _ _ d_ _ _ h_; cases d_ <;> first | exact h_ | (dsimp +zetaDelta only at h_ ⊢; exact h_)) (fun w' => ∃ p : Wld wr [], w' = p.val) (wld_start _ _) ?_
      have hG_ := @wldC wr
      (refine z_quiet gtA (by rfl) (by rfl) (fun K_ hK_ => ?_); go_big_quiet_op; refine hK_ _ ?_; clear hK_ K_)
      (refine z_quiet gtA (by rfl) (by rfl) (fun K_ hK_ => ?_); go_big_quiet_op; refine hK_ _ ?_; clear hK_ K_)
      (refine z_quiet gtA (by rfl) (by rfl) (fun K_ hK_ => ?_); go_big_quiet_op; refine hK_ _ ?_; clear hK_ K_)
      (refine z_run gtA (by rfl) (by rfl) (fun K_ hK_ => ?_); have HK_ := Lib.hid hK_; clear hK_; (first | ((refine wpCopyRow _ _ 22 22 rfl 5 Try.underlying22 u8_one w.heap.size gb M cb (bytesV (P ++ offsB nS subs nS)) HTW2.out.o1 16 4 _ ⟨gd, 0, none⟩ 4 _ rfl rfl (bytesV (beN 4 N)) (by rw [bytesV_length, HDL.out]; rfl) (fun j v hj => by obtain ⟨p, hp, hc⟩ := HD2.out j v hj; cases hp; exact hc) (by rw [bytesV_length, HDL.out]; omega) (bytesV_one _) ?_; intro w3 ho3 hk3 hz3 hb3; rw [bytesV_splice] at ho3; have HO3 := Lib.hid ho3; have HK3 := Lib.hid (show ∀ k, k ≠ gb → w3.heap[k]? = w2.heap[k]? from hk3); have HZ3 := Lib.hid (show w3.heap.size = w2.heap.size from hz3); have HB3 := Lib.hid (show Below w.heap.size w w3 from HB2.out.trans (Below.mono hb3 hgb1)); clear ho3 hk3 hz3 hb3)) | (go_wp2_with (first | (go_at_call 39; (with_reducible refine (HPN.out _).mono ?_); rintro e w2 ⟨a2, c2, rfl, ho, _, _, _, hb2, _⟩; obtain ⟨gd, rfl, _, _⟩ := owns_some ho (by decide); have HD2 := Lib.hid (has_of_owns ho); have hbr : Below wr.heap.size wr w2 := (by exact blw); have HTW2 := Lib.hid (HTW.out.below hbr); have HB2 := Lib.hid (HB.out.trans (hbr.mono hzr)); clear ho)))); refine HK_.out _ _ (wld_ofA) ?_; clear HK_)
      (refine z_last gtA (by rfl) (by rfl) (by rfl) (fun K_ hK_ => ?_); have HK_ := Lib.hid hK_; clear hK_; (first | ((refine wpCopyRow _ _ 22 22 rfl 5 Try.underlying22 u8_one w.heap.size gb M cb (bytesV (P ++ offsB nS subs nS)) HTW2.out.o1 16 4 _ ⟨gd, 0, none⟩ 4 _ rfl rfl (bytesV (beN 4 N)) (by rw [bytesV_length, HDL.out]; rfl) (fun j v hj => by obtain ⟨p, hp, hc⟩ := HD2.out j v hj; cases hp; exact hc) (by rw [bytesV_length, HDL.out]; omega) (bytesV_one _) ?_; intro w3 ho3 hk3 hz3 hb3; rw [bytesV_splice] at ho3; have HO3 := Lib.hid ho3; have HK3 := Lib.hid (show ∀ k, k ≠ gb → w3.heap[k]? = w2.heap[k]? from hk3); have HZ3 := Lib.hid (show w3.heap.size = w2.heap.size from hz3); have HB3 := Lib.hid (show Below w.heap.size w w3 from HB2.out.trans (Below.mono hb3 hgb1)); clear ho3 hk3 hz3 hb3)) | (go_wp2_with (first | (go_at_call 39; (with_reducible refine (HPN.out _).mono ?_); rintro e w2 ⟨a2, c2, rfl, ho, _, _, _, hb2, _⟩; obtain ⟨gd, rfl, _, _⟩ := owns_some ho (by decide); have HD2 := Lib.hid (has_of_owns ho); have hbr : Below wr.heap.size wr w2 := (by exact blw); have HTW2 := Lib.hid (HTW.out.below hbr); have HB2 := Lib.hid (HB.out.trans (hbr.mono hzr)); clear ho)))); refine HK_.out _ _ ?_; clear HK_)
      refine z_nil ?_
      clear hG_
      have HLK := Lib.hid (show Has w3 aL (bytesV (lksB subs)) from by
        have h2 := has_of_owns HTW2.out.o2
        intro j u hu
        obtain ⟨p, hp, hc⟩ := h2 j u hu
        refine ⟨p, hp, ?_⟩
        rw [← hc]
        unfold World.cell?
        rw [add_block, HK3.out p.block (fun e => HTW2.out.f _ _ rfl hp e.symm)])
      have HLT := Lib.hid (show (ctxB p subs).length = M + LL from by
        rw [HCB.out, List.length_append, length_splice _ 16 _ (by rw [HDL.out, HPM.out]; omega), HPM.out, HBL.out])
      have hw3 := HB3.out.size
      clear hM20 kb1 hjl kl1
      have hLLb : LL ≤ 206 * nS := by have := hX1 nS; rwa [List.take_of_length_le (by rw [HNS.out]; exact Nat.le_refl _), ← HBL.out] at this
      go_wp2_with (at_builtin; refine wpApp rfl _ _ 22 rfl w.heap.size 5 (.int .u8 0) 1 1 Try.underlying22 u8_info rfl (by decide) _ M (bytesV (splice (P ++ offsB nS subs nS) 16 (beN 4 N))) rfl (by first | exact HO3.out | exact owns_below HO3.out (bdrew1 (brefl _)) (Nat.le_refl _)) aL LL cL (bytesV (lksB subs)) rfl (by rw [bytesV_length, HBL.out]; omega) (by first | exact HLK.out | exact HLK.out.below (bdrew1 (brefl _))) HKL.out (bytesV_one _) (by unfold maxLen; omega) (by omega) (by first | exact hw3 | (simp; omega)) ?_; intro a8 c8 w8 ho8 k81 k82 k83 hb8 _; rw [← bytesV_append, ← HCB.out] at ho8; have HO8 := Lib.hid ho8; have HA8 := Lib.hid k83; have HB8 := Lib.hid (HB3.out.trans hb8); clear ho8 k83 hb8)
      go_ret
      rw [HLT.out]
      exact ⟨a8, c8, rfl, HO8.out, k81, k82, HA8.out, HB8.out⟩
end Go.Proofs.Ytcegoenlajkgfaa
end
section

/- A lookup's glyphs in the places of a line's: what Run of a subtable of single glyphs does. Conditions: a subtable and a line in memory; sizes. -/
namespace Go.Proofs.Ytcegoenlajkgfaa
open Go.RowKit Go.Lib

/-- What a lookup gives a glyph. -/
abbrev LkF := Int → Nat × Bool
/-- What a change of a line's glyphs may touch: the line's row. -/
def ownS (bk : Option Nat) (k t : Nat) : Prop := t = 57 ∧ bk = some k
theorem ownBlockS (a : Option Addr) (n c : Nat) : (Value.slice a n c).ownBlock = a.map (·.block) := by cases a <;> rfl
theorem GStep.keepS {bk : Option Nat} {B g : Nat} {a : Option Addr} {c : Nat} {l l' : List (Int × Int)} {w w' : World} (h : GStep B g a a w w') (hg : GIs B g a c l w) (hg' : GIs B g a c l' w') (hl : l'.length = l.length) (hbk : a.map (·.block) = bk) (hz : w.heap.size ≤ w'.heap.size) : KeepC B (ownS bk) w w' := by
  refine ⟨h.below, hz, fun k cs t fz hk ho => ?_⟩
  by_cases e2 : k = g
  · subst e2
    rw [hg'.hd, hg.hd, hl]
  · refine h.keep k (Array.getElem?_eq_some_iff.1 hk).1 e2 ?_
    by_cases e : t = 57
    · intro h2; exact ho ⟨e, hbk.symm.trans h2.symm⟩
    · rw [← ownBlockS a l.length c]; exact own_neE hg.row hk e
theorem gset_keep (B g : Nat) (a : Option Addr) (c : Nat) (l : List (Int × Int)) (w : World) (h : GIs B g a c l w) (z x : Int) :
    Calls Try.prog 65 #[.pointer (some ⟨g, 0, none⟩), .int .i64 z, .int .i64 x] w fun e w' => e = .returned (.bool (inG l z)) ∧ GIs B g a c (setG l z x) w' ∧ KeepC B (ownS (a.map (·.block))) w w' := by
  refine (gset_any B g a c l w h z x).mono ?_
  rintro e w' ⟨he, h1, h2, h3⟩
  exact ⟨he, h1, h2.keepS h h1 (by split <;> simp) rfl (by omega)⟩
theorem GIs.rowIn {B g c : Nat} {a : Option Addr} {l : List (Int × Int)} {w : World} (h : GIs B g a c l w) : ∀ k, a.map (·.block) = some k → B ≤ k ∧ k < w.heap.size := by
  intro k hk
  rcases h.row.2 with ⟨hv, _⟩ | ⟨b, cap, cur, hv, hg, hh, r⟩
  · injection hv with hv _ _
    rw [hv] at hk
    cases hk
  · injection hv with hv _ _
    rw [hv] at hk
    injection hk with hk
    simp only at hk
    subst hk
    exact ⟨hg, (Array.getElem?_eq_some_iff.1 hh).1⟩
theorem ownS_no {bk : Option Nat} {t : Nat} (ht : t ≠ 57) : ∀ k, ¬ ownS bk k t := fun _ h => ht h.1
def lkR (bs : List UInt8) (rs : List RP) : LkF := fun id => getL (tabR bs rs).1 (tabR bs rs).2 id
end Go.Proofs.Ytcegoenlajkgfaa
end
section

/- Read of a subtable of single glyphs, and what its law asks first. Conditions: bytes as the slice says. -/
namespace Go.Proofs.Ytcegoenlajkgfaa
open Go.RowKit Go.Lib

/-- The document's Get of it is the lookup's. -/
theorem lkR_ref {bs : List UInt8} {glyphs : Nat} {rs : List RP} (h : LkOk bs glyphs 2 rs) (hg : glyphs ≤ 65535) (id : Int) : refG bs rs id = lkR bs rs id := by
  have := (refG_tab bs rs h.ok (fun r hr => (h.rows.each hg (.inl rfl)).2 r hr) id rs.length (Nat.le_refl _)).1
  rw [List.take_length] at this
  exact this.symm
end Go.Proofs.Ytcegoenlajkgfaa
end
section

/- A lookup of glyphs from 0 on, in a row: what it is, and what it gives. Conditions: numbers of two bytes; no more than 65535 glyphs. -/
namespace Go.Proofs.Ytcegoenlajkgfaa
open Go.RowKit Go.Lib

end Go.Proofs.Ytcegoenlajkgfaa
end
section

/- What a plan's bytes tell of its entries' flags; entries as cells. No walk. -/
namespace Go.Proofs.Ytcegoenlajkgfaa
open Go.RowKit Go.Lib

theorem plan_ents (p : PlanL) (k room : Nat) (h : 22 + room + 2 * p.cls.length + 2 * (p.rows.length * p.n) ≤ 65535) : num (planB p k room) 12 4 = 22 + room + 2 * p.cls.length + 2 * (p.rows.length * p.n) := by
  simp only [planB, List.append_assoc]
  rw [numR _ _ 12 8 4 (by rw [beN_length]), numR _ _ 8 4 4 (by rw [beN_length]), numR _ _ 4 0 4 (by rw [beN_length]), numB4 _ _ (by omega)]
  omega
theorem entC4_len : ∀ l : List (Int × Int × Int × Int), (l.flatMap entC4).length = l.length * 4
  | [] => rfl
  | x :: l => by rw [List.flatMap_cons, List.length_append, entC4_len l, List.length_cons]; simp [entC4]; omega
theorem entC4_one (l : List (Int × Int × Int × Int)) : ∀ u ∈ l.flatMap entC4, u.oneCell' = true := by
  intro u hu
  obtain ⟨e, _, he⟩ := List.mem_flatMap.1 hu
  simp only [entC4, List.mem_cons, List.not_mem_nil, or_false] at he
  rcases he with rfl | rfl | rfl | rfl <;> rfl
end Go.Proofs.Ytcegoenlajkgfaa
end
section

/- Flags of an entry, as bits. Condition: numbers of two bytes. -/
namespace Go.Proofs.Ytcegoenlajkgfaa
open Go.RowKit

theorem bits_and (v m : Nat) (hv : v ≤ 65535) (hm : m ≤ 65535) : bits .and .i64 (v : Int) (m : Int) = ((v &&& m : Nat) : Int) := by
  have e : (BitVec.ofInt 64 (v : Int)).toNat = v := by rw [BitVec.toNat_ofInt]; omega
  have e2 : (BitVec.ofInt 64 (m : Int)).toNat = m := by rw [BitVec.toNat_ofInt]; omega
  have h : v &&& m ≤ v := Nat.and_le_left
  simp only [bits, BitVec.toNat_and]
  show IntKind.wrap .i64 (((BitVec.ofInt 64 (v : Int)).toNat &&& (BitVec.ofInt 64 (m : Int)).toNat : Nat) : Int) = _
  rw [e, e2, IntKind.wrap_i64]
  omega
theorem nat_and_pow (v k : Nat) : v &&& 2 ^ k = if v / 2 ^ k % 2 = 1 then 2 ^ k else 0 := by
  apply Nat.eq_of_testBit_eq
  intro i
  rw [Nat.testBit_and, Nat.testBit_two_pow]
  by_cases hi : k = i
  · subst hi
    by_cases hb : v / 2 ^ k % 2 = 1
    · rw [if_pos hb, Nat.testBit_two_pow, Nat.testBit_eq_decide_div_mod_eq, hb]; simp
    · rw [if_neg hb, Nat.testBit_eq_decide_div_mod_eq]; simp [hb]
  · split
    · rw [Nat.testBit_two_pow]; simp [hi]
    · simp [hi]
theorem flag_yes (v k : Nat) (hv : v ≤ 65535) (hk : 2 ^ k ≤ 65535) (z : Int) (hz : z = ((2 ^ k : Nat) : Int)) (h : v / 2 ^ k % 2 = 1) : bits .and .i64 (v : Int) z = z := by
  subst hz
  rw [bits_and _ _ hv hk, nat_and_pow, if_pos h]
theorem flag_no (v k : Nat) (hv : v ≤ 65535) (hk : 2 ^ k ≤ 65535) (z : Int) (hz : z = ((2 ^ k : Nat) : Int)) (h : ¬ v / 2 ^ k % 2 = 1) : bits .and .i64 (v : Int) z = 0 := by
  subst hz
  rw [bits_and _ _ hv hk, nat_and_pow, if_neg h]
  rfl
end Go.Proofs.Ytcegoenlajkgfaa
end
section

/- A machine on its way along a line, as a function; drive's classAt at any place. Conditions: a machine and a line in memory; sizes. -/
namespace Go.Proofs.Ytcegoenlajkgfaa
open Go.RowKit Go.Lib

/-- An entry: its next state, flags, and two words. -/
abbrev Ent := Nat × Nat × Nat × Nat
def entX (vb : List UInt8) (k j : Nat) : Ent := (num vb (j * (4 + 2 * k)) 2, num vb (j * (4 + 2 * k) + 2) 2, if 0 < k then num vb (j * (4 + 2 * k) + 4) 2 else 0, if 1 < k then num vb (j * (4 + 2 * k) + 6) 2 else 0)
def entV4 (e : Ent) : Value := .agg #[.int .i64 (e.1 : Nat), .int .i64 (e.2.1 : Nat), .int .i64 (e.2.2.1 : Nat), .int .i64 (e.2.2.2 : Nat)]
theorem entX_le (vb : List UInt8) (k j : Nat) : (entX vb k j).1 ≤ 65535 ∧ (entX vb k j).2.1 ≤ 65535 ∧ (entX vb k j).2.2.1 ≤ 65535 ∧ (entX vb k j).2.2.2 ≤ 65535 := by
  unfold entX
  refine ⟨num2_lt _ _, num2_lt _ _, ?_, ?_⟩
  · dsimp only; split
    · exact num2_lt _ _
    · omega
  · dsimp only; split
    · exact num2_lt _ _
    · omega
/-- The entry of a state and a class. -/
def enM (bs : List UInt8) (k s c : Nat) : Ent := entX (bs.drop (num bs 12 4)) k (entN bs (s * num bs 0 4 + c))
/-- The class of a line's place, or of its end. -/
def clD (bs : List UInt8) (rs : List RP) (l : List (Int × Int)) (z : Nat) : Nat := match l[z]? with
  | some p => classM bs rs p.1
  | none => 0
theorem classM_less (bs : List UInt8) (rs : List RP) (id : Int) (h : 4 ≤ num bs 0 4) : classM bs rs id < num bs 0 4 := by
  unfold classM
  split
  · omega
  · simp only
    split
    · rename_i h2; exact h2.2
    · omega
theorem clD_lt (bs : List UInt8) (rs : List RP) (l : List (Int × Int)) (z : Nat) (h : 4 ≤ num bs 0 4) : clD bs rs l z < num bs 0 4 := by
  unfold clD
  split
  · exact classM_less _ _ _ h
  · omega
theorem enM_next (bs : List UInt8) (k : Nat) {glyphs : Nat} {rs : List RP} {S s c : Nat} (hok : MOk bs glyphs k rs S) (hs : s < S) (hc : c < num bs 0 4) : (enM bs k s c).1 < S := by
  have h1 : entN bs (s * num bs 0 4 + c) < needE bs S := ent_in hs hc
  have h2 : nextN bs k (entN bs (s * num bs 0 4 + c)) < needS bs k (needE bs S) := needL_lt h1
  have h3 := hok.least.closed.2
  have h4 : (enM bs k s c).1 = nextN bs k (entN bs (s * num bs 0 4 + c)) := by
    unfold enM entX nextN
    rw [num_dropS]
  omega
/-- A machine goes along a line: what becomes of it, how many steps, and the error. -/
def runD {X : Type} (cl : X → Nat → Nat) (en : Nat → Nat → Ent) (fin : X → Nat → Bool) (act : X → Nat → Ent → X × Int × Int) : Nat → X → Nat → Nat → Nat → Nat → X × Nat × Nat
  | 0, x, _, _, _, st => (x, st - 1, 4)
  | fu + 1, x, now, z, re, st =>
    let e := en now (cl x z)
    let r := act x z e
    if e.2.1 / 2 ^ 14 % 2 = 1 then (if 64 < re + 1 then (r.1, st, 4) else runD cl en fin act fu r.1 e.1 (max r.2.1 0).toNat (re + 1) (st + 1))
    else if fin x z then (r.1, st, 0) else runD cl en fin act fu r.1 e.1 (max r.2.2 0).toNat 0 (st + 1)
/-- What holds of a line at first, and stays at each step, holds of what becomes of it. -/
theorem runD_keeps {X : Type} (P : X → Prop) {cl : X → Nat → Nat} {en : Nat → Nat → Ent} {fin : X → Nat → Bool} {act : X → Nat → Ent → X × Int × Int} (hs : ∀ x z e, P x → P (act x z e).1) : ∀ fu x now z re st, P x → P (runD cl en fin act fu x now z re st).1 := by
  intro fu
  induction fu with
  | zero => intro x now z re st h; exact h
  | succ fu ih =>
    intro x now z re st h
    unfold runD
    dsimp only
    split
    · split
      · exact hs _ _ _ h
      · exact ih _ _ _ _ _ (hs _ _ _ h)
    · split
      · exact hs _ _ _ h
      · exact ih _ _ _ _ _ (hs _ _ _ h)
set_option maxRecDepth 100000 in
set_option maxHeartbeats 1600000 in
theorem classAt_z (B g : Nat) (bs : List UInt8) (k : Nat) (rs : List RP) (S : Nat) (Bl gl : Nat) (a : Option Addr) (c : Nat) (l : List (Int × Int)) (z : Nat) (hz : z ≤ 1000000000) (w : World) (h : MIs B g bs k rs S w) (hf : FitL (tabR (bs.drop (num bs 4 4)) rs).1 (tabR (bs.drop (num bs 4 4)) rs).2) (hG : GIs Bl gl a c l w) (hid : ∀ p ∈ l, -9223372036854775808 ≤ p.1 ∧ p.1 ≤ 9223372036854775807) :
    Calls Try.prog 71 #[.pointer (some ⟨g, 0, none⟩), .pointer (some ⟨gl, 0, none⟩), .int .i64 (z : Nat)] w fun e w' => e = .returned (.tuple #[.int .i64 (clD bs rs l z : Nat), .bool (decide (z < l.length))]) ∧ Below w.heap.size w w' := by
  have hAC := allocC
  have hAF := allocF
  have HAt := Lib.hid (gat_any Bl gl a c l w hG (z : Nat))
  have HM := Lib.hid h
  have HF := Lib.hid hf
  cases hl : l[z]? with
  | none =>
    have hin : inG l (z : Nat) = false := by
      have := List.getElem?_eq_none_iff.1 hl
      unfold inG
      simp
      omega
    rw [show clD bs rs l z = 0 by rw [clD, hl], show decide (z < l.length) = false by have := List.getElem?_eq_none_iff.1 hl; simp; omega]
    rw [hin, show atG l (z : Nat) = (0, 0) by rw [atG, if_neg (by rw [hin]; decide)]] at HAt
    simp only [glyphA] at HAt
    clear hl hin h hG hid hf
    go_enter Try.func71, Try.ntmps71
    go_wp2_with (go_at_call 49; (with_reducible refine HAt.out.mono ?_); rintro e w1 ⟨rfl, hb1⟩)
    go_ret2
    exact ⟨rfl, blw⟩
  | some p =>
    have hin : inG l (z : Nat) = true := inG_of hl
    have hat : atG l (z : Nat) = p := atG_of hl
    have hp := hid p (List.mem_of_getElem? hl)
    rw [show clD bs rs l z = classM bs rs p.1 by rw [clD, hl], show decide (z < l.length) = true by have := (List.getElem?_eq_some_iff.1 hl).1; simp; omega]
    rw [hin, hat] at HAt
    obtain ⟨p1, p2⟩ := p
    simp only [glyphA] at HAt hp
    have HC := Lib.hid (fun W (hW : Below w.heap.size w W) => class_any B g bs k rs S p1 W (HM.out.below hW) HF.out hp)
    clear hl hin hat h hG hid hf hp
    generalize classM bs rs p1 = C at *
    go_enter Try.func71, Try.ntmps71
    go_wp2_with (first | (go_at_call 49; (with_reducible refine HAt.out.mono ?_); rintro e w1 ⟨rfl, hb1⟩; have h1c := bc hb1; have h1f := bf hb1; have h1z := hb1.size) | (go_at_call 99; (with_reducible refine (HC.out _ (by exact blw)).mono ?_); rintro e w2 ⟨rfl, hb2⟩))
    go_ret2
    exact ⟨rfl, blw⟩
end Go.Proofs.Ytcegoenlajkgfaa
end
section

/- Lookups of a subtable that changes glyphs by what stands around them, as the document has them, and what its swap does. Conditions: the lookups in memory; sizes. -/
namespace Go.Proofs.Ytcegoenlajkgfaa
open Go.RowKit Go.Lib

/-- A lookup of the document's, and where it lies. -/
structure SubD where
  a : Option Addr
  n : Nat
  c : Nat
  bs : List UInt8
  a' : Option Addr
  c' : Nat
  rs : List RP
def SubD.v (s : SubD) : List Value := [.slice s.a s.n s.c, .slice s.a' s.rs.length s.c']
def subsV (l : List SubD) : List Value := l.flatMap SubD.v
theorem subsV_length : ∀ l : List SubD, (subsV l).length = l.length * 2
  | [] => rfl
  | s :: l => by
    have ih := subsV_length l
    show (s.v ++ subsV l).length = _
    simp [SubD.v] at ih ⊢
    omega
theorem subsV_get : ∀ {l : List SubD} {k : Nat} {s : SubD}, l[k]? = some s → (subsV l)[k * 2]? = some (.slice s.a s.n s.c) ∧ (subsV l)[k * 2 + 1]? = some (.slice s.a' s.rs.length s.c')
  | [], k, s, h => by simp at h
  | x :: l, 0, s, h => by
    simp at h
    subst h
    exact ⟨rfl, rfl⟩
  | x :: l, k + 1, s, h => by
    rw [List.getElem?_cons_succ] at h
    have ih := subsV_get h
    have e : subsV (x :: l) = .slice x.a x.n x.c :: .slice x.a' x.rs.length x.c' :: subsV l := rfl
    rw [e, show (k + 1) * 2 = k * 2 + 1 + 1 by omega]
    simp only [List.getElem?_cons_succ]
    exact ih
structure SubOk (glyphs : Nat) (s : SubD) (w : World) : Prop where
  has : Has w s.a (bytesV s.bs)
  rows : Has w s.a' (encRs s.rs)
  len : s.bs.length = s.n
  few : s.n ≤ 4000
  g2 : glyphs ≤ 65535
  lk : LkOk s.bs glyphs 2 s.rs
theorem SubOk.below {glyphs : Nat} {s : SubD} {w w' : World} (h : SubOk glyphs s w) (hb : Below w.heap.size w w') : SubOk glyphs s w' := ⟨h.has.below hb, h.rows.below hb, h.len, h.few, h.g2, h.lk⟩
structure SubsIs (glyphs : Nat) (aS : Option Addr) (l : List SubD) (w : World) : Prop where
  has : Has w aS (subsV l)
  each : ∀ s ∈ l, SubOk glyphs s w
theorem SubsIs.below {glyphs : Nat} {aS : Option Addr} {l : List SubD} {w w' : World} (h : SubsIs glyphs aS l w) (hb : Below w.heap.size w w') : SubsIs glyphs aS l w' := ⟨h.has.below hb, fun s hs => (h.each s hs).below hb⟩
/-- What the lookups give. -/
def lkS (l : List SubD) (which : Nat) (id : Int) : Nat × Bool := match l[which]? with
  | some s => refG s.bs s.rs id
  | none => (0, false)
/-- Another glyph in a place, if a lookup has one. -/
def swG (lk : Nat → Int → Nat × Bool) (l : List (Int × Int)) (i : Int) (which : Nat) : List (Int × Int) :=
  if which = 65535 then l else if inG l i = true then (if (lk which (atG l i).1).2 = true then setG l i ((lk which (atG l i).1).1 : Nat) else l) else l
theorem swG_length (lk : Nat → Int → Nat × Bool) (l : List (Int × Int)) (i : Int) (which : Nat) : (swG lk l i which).length = l.length := by
  unfold swG
  split
  · rfl
  split
  · split
    · exact setG_length _ _ _
    · rfl
  · rfl
set_option maxRecDepth 100000 in
set_option maxHeartbeats 3200000 in
theorem refswap_any (glyphs : Nat) (mach : Array Value) (m0 m1 m2 m3 m4 m5 m6 m7 m8 : Value) (hm : mach = #[m0, m1, m2, m3, m4, m5, m6, m7, m8]) (h1 : ∀ v ∈ mach, v.oneCell' = true) (aS : Option Addr) (nS cS : Nat) (subs : List SubD) (al : Option Addr) (nl cl : Nat) (l : List (Int × Int)) (i : Int) (which : Nat) (w : World) (hS : SubsIs glyphs aS subs w) (hSl : subs.length = nS) (hl : Has w al (gv l)) (hln : l.length = nl) (hA : al = none → cl = 0) (hids : ∀ p ∈ l, -9223372036854775808 ≤ p.1 ∧ p.1 ≤ 9223372036854775807) (hn : nl ≤ 1000000) (hw : which = 65535 ∨ which < nS) (h60 : nS ≤ 65535) (g6 : Nat) (hg : g6 < w.heap.size) (hne : 0 < nl → ∀ p, al = some p → p.block ≠ g6) :
    Calls Try.prog 52 #[.agg #[m0, m1, m2, m3, m4, m5, m6, m7, m8, .slice aS nS cS], .slice al nl cl, .int .i64 i, .int .i64 (which : Nat)] w fun e w' => ∃ a' c', e = .returned (.slice a' nl c') ∧ Has w' a' (gv (swG (lkS subs) l i which)) ∧ (a' = none → c' = 0) ∧ (0 < nl → ∀ p, a' = some p → p.block ≠ g6) ∧ Below w.heap.size w w' := by
  have hAC := allocC
  have hAF := allocF
  have HH := Lib.hid hl
  have HA := Lib.hid hA
  have HNE := Lib.hid hne
  have HOUT : ∀ W, Below w.heap.size w W → swG (lkS subs) l i which = l → ∃ a' c', Ending.returned (Value.slice al nl cl) = .returned (.slice a' nl c') ∧ Has W a' (gv (swG (lkS subs) l i which)) ∧ (a' = none → c' = 0) ∧ (0 < nl → ∀ p, a' = some p → p.block ≠ g6) ∧ Below w.heap.size w W := fun W hW he => ⟨al, cl, rfl, by rw [he]; exact HH.out.below hW, HA.out, HNE.out, hW⟩
  have HO := Lib.hid HOUT
  clear HOUT
  by_cases h5 : which = 65535
  · subst h5
    have hs : swG (lkS subs) l i 65535 = l := by unfold swG; rw [if_pos rfl]
    have HS := Lib.hid hs
    clear hS hSl hl hA hids hw hne hs h1
    go_enter Try.func52, Try.ntmps52
    go_wp2_with fail
    go_ret
    exact HO.out _ (by exact blw) HS.out
  have d0 : ((which : Int) == 65535) = false := by simp; omega
  by_cases hi0 : i < 0
  · have hs : swG (lkS subs) l i which = l := by
      unfold swG
      rw [if_neg h5, if_neg]
      simp only [inG, Bool.and_eq_true, decide_eq_true_eq]
      omega
    have HS := Lib.hid hs
    have d1 : decide (i < 0) = true := by simpa using hi0
    clear hS hSl hl hA hids hw hne hs h1 h5
    go_enter Try.func52, Try.ntmps52
    go_wp2_with fail
    go_ret
    exact HO.out _ (by exact blw) HS.out
  have d1 : decide (i < 0) = false := by simpa using hi0
  by_cases hin : (nl : Int) ≤ i
  · have hs : swG (lkS subs) l i which = l := by
      unfold swG
      rw [if_neg h5, if_neg]
      simp only [inG, Bool.and_eq_true, decide_eq_true_eq]
      omega
    have HS := Lib.hid hs
    have d2 : decide ((nl : Int) ≤ i) = true := by simpa using hin
    clear hS hSl hl hA hids hw hne hs h1 h5 hi0
    go_enter Try.func52, Try.ntmps52
    go_wp2_with fail
    go_ret
    exact HO.out _ (by exact blw) HS.out
  obtain ⟨k, rfl⟩ : ∃ k : Nat, i = k := ⟨i.toNat, by omega⟩
  have hk : k < nl := by omega
  have hwS : which < nS := by omega
  have d2 : decide ((nl : Int) ≤ (k : Int)) = false := by simp; omega
  have d3 : decide (nl ≤ k) = false := by simp; omega
  have d4 : decide (nS ≤ which) = false := by simp; omega
  obtain ⟨s, hs⟩ : ∃ s, subs[which]? = some s := ⟨_, List.getElem?_eq_getElem (by omega)⟩
  obtain ⟨p, hp⟩ : ∃ p, l[k]? = some p := ⟨_, List.getElem?_eq_getElem (by omega)⟩
  have hids' := hids p (List.mem_of_getElem? hp)
  have hsub := hS.each s (List.mem_of_getElem? hs)
  have hget := fun W (hW : Below w.heap.size w W) => refget_any s.a s.n s.c s.bs s.a' s.c' s.rs p.1 W (hsub.has.below hW) hsub.len (by have := hsub.few; omega) (hsub.rows.below hW) (by have := (hsub.lk.rows.each hsub.g2 (.inl rfl)).1; omega) (by have := hsub.lk.fitG hsub.g2 (.inl rfl); rwa [hsub.len] at this) hids'
  have hsw : swG (lkS subs) l (k : Nat) which = if (refG s.bs s.rs p.1).2 = true then setG l (k : Nat) ((refG s.bs s.rs p.1).1 : Nat) else l := by
    unfold swG
    rw [if_neg h5, if_pos (inG_of hp), atG_of hp]
    have e : lkS subs which = refG s.bs s.rs := by
      funext id
      unfold lkS
      rw [hs]
    rw [e]
  obtain ⟨gs, os, rfl, hgs, hcs⟩ := hS.has.get (by rw [subsV_length]; omega)
  have c0 := hcs (which * 2) _ (subsV_get hs).1
  have c1 := hcs (which * 2 + 1) _ (subsV_get hs).2
  simp only [← Nat.add_assoc] at c1
  obtain ⟨gi, oi, p', rfl, hgi, hp', e0, e1⟩ := gv_at hl (k := k) (by omega)
  obtain rfl : p = p' := by rw [hp] at hp'; injection hp'
  obtain ⟨p1, p2⟩ := p
  simp only at hget hsw e0 e1
  have HSW := Lib.hid hsw
  have HG := Lib.hid hget
  have HLN := Lib.hid hln
  generalize refG s.bs s.rs p1 = q at *
  obtain ⟨q1, q2⟩ := q
  simp only at HSW HG
  obtain ⟨sa, sn, sc, sbs, sa', sc', srs⟩ := s
  simp only at c0 c1 HG
  generalize srs.length = sL at *
  clear hS hSl hl hA hids hw hne hsw h5 hi0 hin hs hp hp' hget hids' hsub hcs hln
  go_enter Try.func52, Try.ntmps52
  go_wp2_with fail
  obtain ⟨V, hV⟩ : ∃ V, V = w.alloc (Obj.cells #[m0, m1, m2, m3, m4, m5, m6, m7, m8, .slice (some ⟨gs, os, none⟩) nS cS] 45) := ⟨_, rfl⟩
  have hbV : Below w.heap.size w V := by rw [hV]; exact balloc (brefl w) _
  have x4 : V.heap[w.heap.size]? = some (.cells #[m0, m1, m2, m3, m4, m5, m6, m7, m8, .slice (some ⟨gs, os, none⟩) nS cS] 45 (0, 0)) := by rw [hV]; exact (heap_push _ _ _).trans (if_pos rfl)
  rw [← hV]
  have q4 := fun o => cell_of_heap x4 o
  have l4 := (Array.getElem?_eq_some_iff.1 x4).1
  have hvz := hbV.size
  have HB := Lib.hid hbV
  have c0 := (hbV.cell (p := ⟨gs, os + which * 2, none⟩) hgs).trans c0
  have c1 := (hbV.cell (p := ⟨gs, os + which * 2 + 1, none⟩) hgs).trans c1
  have e0 := (hbV.cell (p := ⟨gi, oi + k * 2, none⟩) hgi).trans e0
  have hgs : gs < V.heap.size := by omega
  have hgi : gi < V.heap.size := by omega
  clear hV hbV x4 e1
  refine wp_region_tree (.step 0 (.step 1 (.step 2 (.step 3 (.step 4 (.step 5 (.step 6 (.step 7 (.step 8 (.step 9 (.step 10 (.step 11 (.step 12 (.step 13 (.step 14 (.step 15 .nil)))))))))))))))) (by kernel_rfl) (by kernel_rfl) (by kernel_rfl) (by kernel_rfl) (by intro _ _ d_ _ _ h_; cases d_ <;> first | exact h_ | (dsimp +zetaDelta only at h_ ⊢; exact h_)) (fun w' => ∃ p : Wld V [], w' = p.val) (wld_start _ _) ?_
  have hG_ := @wldC V
  (refine tree_quiet gtA (by rfl) (by rfl) (fun K_ hK_ => ?_); go_big_quiet_op; refine hK_ _ ?_; clear hK_ K_)
  (refine tree_quiet gtA (by rfl) (by rfl) (fun K_ hK_ => ?_); go_big_quiet_op; refine hK_ _ ?_; clear hK_ K_)
  (refine tree_quiet gtA (by rfl) (by rfl) (fun K_ hK_ => ?_); go_big_quiet_op; refine hK_ _ ?_; clear hK_ K_)
  (refine tree_quiet gtA (by rfl) (by rfl) (fun K_ hK_ => ?_); go_big_quiet_op; refine hK_ _ ?_; clear hK_ K_)
  (refine tree_quiet gtA (by rfl) (by rfl) (fun K_ hK_ => ?_); go_big_quiet_op; refine hK_ _ ?_; clear hK_ K_)
  (refine tree_quiet gtA (by rfl) (by rfl) (fun K_ hK_ => ?_); go_big_quiet_op; refine hK_ _ ?_; clear hK_ K_)
  (refine tree_quiet gtA (by rfl) (by rfl) (fun K_ hK_ => ?_); go_big_quiet_op; refine hK_ _ ?_; clear hK_ K_)
  (refine tree_quiet gtA (by rfl) (by rfl) (fun K_ hK_ => ?_); go_big_quiet_op; refine hK_ _ ?_; clear hK_ K_)
  (refine tree_quiet gtA (by rfl) (by rfl) (fun K_ hK_ => ?_); go_big_quiet_op; refine hK_ _ ?_; clear hK_ K_)
  (refine tree_quiet gtA (by rfl) (by rfl) (fun K_ hK_ => ?_); go_big_quiet_op; refine hK_ _ ?_; clear hK_ K_)
  (refine tree_run gtA (by rfl) (by rfl) (fun K_ hK_ => ?_); have HK_ := Lib.hid hK_; clear hK_; go_wp2_with ((go_at_call 32; (with_reducible refine (HG.out _ (HB.out.trans (Below.mono (w := V) (by exact blw) hvz))).mono ?_); rintro e w1 ⟨rfl, hb1⟩)); refine HK_.out _ _ (wld_ofA) ?_; clear HK_)
  (refine tree_quiet gtA (by rfl) (by rfl) (fun K_ hK_ => ?_); go_big_quiet_op; refine hK_ _ ?_; clear hK_ K_)
  (refine tree_quiet gtA (by rfl) (by rfl) (fun K_ hK_ => ?_); go_big_quiet_op; refine hK_ _ ?_; clear hK_ K_)
  (refine tree_quiet gtA (by rfl) (by rfl) (fun K_ hK_ => ?_); go_big_quiet_op; refine hK_ _ ?_; clear hK_ K_)
  (refine tree_quiet gtA (by rfl) (by rfl) (fun K_ hK_ => ?_); go_big_quiet_op; refine hK_ _ ?_; clear hK_ K_)
  (refine tree_quiet gtA (by rfl) (by rfl) (fun K_ hK_ => ?_); go_big_quiet_op; refine hK_ _ ?_; clear hK_ K_)
  refine tree_nil ?_
  clear hG_
  have hb1 : Below V.heap.size V w1 := (by exact blw)
  have HB1 := Lib.hid (HB.out.trans (hb1.mono hvz))
  clear q4 c0 c1 e0 hgs hgi hb1
  cases q2 with
  | false =>
    have hsw : swG (lkS subs) l (k : Nat) which = l := by rw [HSW.out]; exact if_neg (by simp)
    have HS := Lib.hid hsw
    clear hsw
    go_wp2_with fail
    go_ret
    exact HO.out _ HB1.out HS.out
  | true =>
    have hsw : swG (lkS subs) l (k : Nat) which = setG l (k : Nat) (q1 : Nat) := by rw [HSW.out]; exact if_pos rfl
    have HS := Lib.hid hsw
    have HST := Lib.hid (refSetG_any (some ⟨gi, oi, none⟩) nl cl l (k : Nat) (q1 : Nat) w1 (HH.out.below HB1.out) HLN.out hn HA.out)
    clear hsw
    go_wp2_with fail
    refine HST.out.mono ?_
    rintro e w2 ⟨v, rfl, hv, hb2⟩
    have HB2 := Lib.hid (HB1.out.trans (hb2.mono HB1.out.size))
    have hz1 := HB1.out.size
    rcases hv with ⟨rfl, _, h2⟩ | ⟨a', c', rfl, ho⟩
    · have H2 := Lib.hid h2
      clear h2 hb2
      go_wp2_with fail
      go_ret
      exact ⟨_, cl, rfl, by rw [HS.out]; exact H2.out, HA.out, HNE.out, HB2.out⟩
    · rw [setG_length, HLN.out] at ho ⊢
      have HOW := Lib.hid ho
      clear ho hb2
      go_wp2_with fail
      go_ret
      refine ⟨a', c', rfl, by rw [HS.out]; exact has_of_owns HOW.out, ?_, ?_, HB2.out⟩
      · obtain ⟨a2, c2, e, _, _, h3⟩ := owns_slice HOW.out
        injection e with e1 e2 e3
        subst e1 e3
        exact h3
      · intro _ p hp
        subst hp
        rcases HOW.out.2 with ⟨hv, _⟩ | ⟨g, cap, cur, hv, hgg, _⟩
        · injection hv with hv _ _
          cases hv
        · injection hv with hv _ _
          injection hv with hv
          subst hv
          show g ≠ g6
          omega
end Go.Proofs.Ytcegoenlajkgfaa
end
section

/- Such a subtable of layer 15, as its bytes tell it. No condition. -/
namespace Go.Proofs.Ytcegoenlajkgfaa
open Go.RowKit Go.Lib

/-- As many lookups as a number of one asks for. -/
def cwX (x : Nat) : Nat := if x = 65535 then 0 else x + 1
def entW (bs : List UInt8) (j : Nat) : Ent := entX (bs.drop (num bs 12 4)) 2 j
/-- As many as the first entries ask for. -/
def cntC (bs : List UInt8) : Nat → Nat
  | 0 => 0
  | j + 1 => max (max (cntC bs j) (cwX (entW bs j).2.2.1)) (cwX (entW bs j).2.2.2)
theorem cntC_mono (bs : List UInt8) {i j : Nat} (h : i ≤ j) : cntC bs i ≤ cntC bs j := by
  induction h with
  | refl => exact Nat.le_refl _
  | step h ih => exact Nat.le_trans ih (by show _ ≤ max (max _ _) _; omega)
theorem cntC_le (bs : List UInt8) : ∀ j, cntC bs j ≤ 65536
  | 0 => by simp [cntC]
  | j + 1 => by
    have ih := cntC_le bs j
    have h := entX_le (bs.drop (num bs 12 4)) 2 j
    show max (max _ (cwX (entW bs j).2.2.1)) (cwX (entW bs j).2.2.2) ≤ _
    have h1 : cwX (entW bs j).2.2.1 ≤ 65535 := by unfold cwX; have : (entW bs j).2.2.1 ≤ 65535 := h.2.2.1; split <;> omega
    have h2 : cwX (entW bs j).2.2.2 ≤ 65535 := by unfold cwX; have : (entW bs j).2.2.2 ≤ 65535 := h.2.2.2; split <;> omega
    omega
theorem cntC_65 (bs : List UInt8) : ∀ j, cntC bs j ≤ 65535
  | 0 => by simp [cntC]
  | j + 1 => by
    have ih := cntC_65 bs j
    have h := entX_le (bs.drop (num bs 12 4)) 2 j
    show max (max _ (cwX (entW bs j).2.2.1)) (cwX (entW bs j).2.2.2) ≤ _
    have h1 : cwX (entW bs j).2.2.1 ≤ 65535 := by unfold cwX; have : (entW bs j).2.2.1 ≤ 65535 := h.2.2.1; split <;> omega
    have h2 : cwX (entW bs j).2.2.2 ≤ 65535 := by unfold cwX; have : (entW bs j).2.2.2 ≤ 65535 := h.2.2.2; split <;> omega
    omega
/-- Each entry's lookups are among them. -/
theorem cntC_in (bs : List UInt8) {j N : Nat} (h : j < N) : ((entW bs j).2.2.1 = 65535 ∨ (entW bs j).2.2.1 < cntC bs N) ∧ ((entW bs j).2.2.2 = 65535 ∨ (entW bs j).2.2.2 < cntC bs N) := by
  have h1 : cntC bs (j + 1) ≤ cntC bs N := cntC_mono bs h
  have h2 : cntC bs (j + 1) = max (max (cntC bs j) (cwX (entW bs j).2.2.1)) (cwX (entW bs j).2.2.2) := rfl
  unfold cwX at h2
  constructor
  · by_cases e : (entW bs j).2.2.1 = 65535
    · exact .inl e
    · rw [if_neg e] at h2
      exact .inr (by omega)
  · by_cases e : (entW bs j).2.2.2 = 65535
    · exact .inl e
    · rw [if_neg e] at h2
      exact .inr (by omega)
/-- Where a lookup stands. -/
def offC (bs : List UInt8) (i : Nat) : Nat := num bs 16 4 + num bs (num bs 16 4 + 4 * i) 4
structure LkC (bs : List UInt8) (glyphs i : Nat) (rs : List RP) : Prop where
  at_ : num bs 16 4 + 4 * i + 4 ≤ bs.length
  off : offC bs i ≤ bs.length
  ok : LkOk (bs.drop (offC bs i)) glyphs 2 rs
theorem LkC.det {bs : List UInt8} {glyphs i : Nat} {r1 r2 : List RP} (h1 : LkC bs glyphs i r1) (h2 : LkC bs glyphs i r2) : r1 = r2 := h1.ok.det h2.ok
structure COk (bs : List UInt8) (glyphs : Nat) (rs : List RP) (S : Nat) (qs : List (List RP)) : Prop where
  mok : MOk bs glyphs 2 rs S
  l20 : 20 ≤ bs.length
  at_ : num bs 16 4 ≤ bs.length
  len : qs.length = cntC bs (needE bs S)
  each : ∀ i q, qs[i]? = some q → LkC bs glyphs i q
theorem COk.det {bs : List UInt8} {glyphs : Nat} {r1 r2 : List RP} {S1 S2 : Nat} {q1 q2 : List (List RP)} (h1 : COk bs glyphs r1 S1 q1) (h2 : COk bs glyphs r2 S2 q2) : r1 = r2 ∧ S1 = S2 ∧ q1 = q2 := by
  obtain ⟨rfl, rfl⟩ := h1.mok.det h2.mok
  refine ⟨rfl, rfl, List.ext_getElem (h1.len.trans h2.len.symm) fun i hi hj => ?_⟩
  exact (h1.each i _ (List.getElem?_eq_getElem hi)).det (h2.each i _ (List.getElem?_eq_getElem hj))
/-- A lookup that isn't there, though it is asked for: then there is no such subtable. -/
theorem COk.miss {bs : List UInt8} {glyphs : Nat} {rs rs' : List RP} {S S' : Nat} {qs : List (List RP)} (h : COk bs glyphs rs S qs) (h2 : MOk bs glyphs 2 rs' S') {i : Nat} (hi : i < cntC bs (needE bs S')) (hno : ∀ q, ¬ LkC bs glyphs i q) : False := by
  obtain ⟨rfl, rfl⟩ := h.mok.det h2
  exact hno _ (h.each i _ (List.getElem?_eq_getElem (by rw [h.len]; exact hi)))
/-- The number of four bytes at a place, or -1. -/
def qAt (bs : List UInt8) (k : Nat) : Int := if k + 4 ≤ bs.length then (num bs k 4 : Nat) else -1
theorem qAt_any (a : Option Addr) (n c : Nat) (bs : List UInt8) (k : Nat) (z : Int) (hz : z = (k : Nat)) (w : World) (h : Has w a (bytesV bs)) (hl : bs.length = n) (hn : n ≤ maxLen) (hk : k ≤ 1000000000000) :
    Calls Try.prog 43 #[.slice a n c, .int .i64 z, .int .i64 4] w fun e w' => e = .returned (.int .i64 (qAt bs k)) ∧ w = w' := by
  subst hz
  unfold qAt
  split
  · rename_i hin
    exact u_in a n c k 4 bs w h hl (by omega) (by omega) hn
  · rename_i hin
    exact u_out a n c 4 (k : Int) w (by omega) (by omega) (by omega) hn
theorem qAt_bound (bs : List UInt8) (k : Nat) : -1 ≤ qAt bs k ∧ qAt bs k ≤ 4294967295 := by
  unfold qAt
  have := num4_lt bs k
  split <;> omega
end Go.Proofs.Ytcegoenlajkgfaa
end
section

/- The document's Read of layer 15. Conditions: bytes as the slice says; sizes. -/
namespace Go.Proofs.Ytcegoenlajkgfaa
open Go.RowKit Go.Lib

theorem HasN.keptO {own : Nat → Nat → Prop} {B : Nat} {w w' : World} {a : Option Addr} {xs : List Value} (h : HasN B w a xs) (hk : KeptO own w w') (hn : ∀ k, B ≤ k → ¬ own k 131) : HasN B w' a xs := by
  have key : ∀ p, a = some p → xs ≠ [] → w'.heap[p.block]? = w.heap[p.block]? := fun p hp hx => by
    obtain ⟨h1, cs, fz, h2⟩ := h.2 hx p hp
    exact hk.2 _ _ _ _ h2 (hn _ h1)
  refine ⟨fun j u hu => ?_, fun hx p hp => ?_⟩
  · obtain ⟨p, hp, hc⟩ := h.1 j u hu
    refine ⟨p, hp, ?_⟩
    have hx : xs ≠ [] := by rintro rfl; simp at hu
    rw [← hc]
    unfold World.cell?
    rw [add_block, key p hp hx]
  · obtain ⟨h1, cs, fz, h2⟩ := h.2 hx p hp
    exact ⟨h1, cs, fz, (key p hp hx).trans h2⟩
/-- A lookup of the list at its own place. -/
structure SubHere (a : Option Addr) (n c : Nat) (bs : List UInt8) (glyphs i : Nat) (s : SubD) : Prop where
  ea : s.a = adv a c (offC bs i)
  en : s.n = n - offC bs i
  ec : s.c = c - offC bs i
  eb : s.bs = bs.drop (offC bs i)
  lk : LkC bs glyphs i s.rs
def ownK (g9 k t : Nat) : Prop := k = g9 ∨ t = 40
def KReadSt (a : Option Addr) (n c : Nat) (bs : List UInt8) (glyphs g9 : Nat) (mc : Value → Array Value) (w V : World) (q : Nat) (wr : World) : Prop :=
  ∃ (subs : List SubD) (aS : Option Addr) (cS : Nat), subs.length = q ∧ wr.heap[g9]? = some (.cells (mc (.slice aS q cS)) 45 (0, 0)) ∧ wr.ownsRow (g9 + 1) 40 2 (.slice aS q cS) q (subsV subs) ∧ (∀ i s, subs[i]? = some s → SubHere a n c bs glyphs i s ∧ HasN (g9 + 1) wr s.a' (encRs s.rs)) ∧ Below w.heap.size w wr ∧ KeptO (ownK g9) V wr
theorem KReadSt.below {a : Option Addr} {n c : Nat} {bs : List UInt8} {glyphs g9 : Nat} {mc : Value → Array Value} {w V : World} {q : Nat} {wr wr' : World} (h : KReadSt a n c bs glyphs g9 mc w V q wr) (hb : Below wr.heap.size wr wr') : KReadSt a n c bs glyphs g9 mc w V q wr' := by
  obtain ⟨subs, aS, cS, h1, h2, h3, h4, h5, h6⟩ := h
  exact ⟨subs, aS, cS, h1, (hb.block _ (Array.getElem?_eq_some_iff.1 h2).1).trans h2, owns_below h3 hb (Nat.le_refl _), fun i s hs => ⟨(h4 i s hs).1, (h4 i s hs).2.below hb⟩, h5.trans (hb.mono h5.size), h6.trans (KeptO.below hb)⟩
theorem KReadSt.rebase {a : Option Addr} {n c : Nat} {bs : List UInt8} {glyphs g9 : Nat} {mc : Value → Array Value} {w V : World} {q : Nat} {wr : World} (h : KReadSt a n c bs glyphs g9 mc w V q wr) : KReadSt a n c bs glyphs g9 mc w wr q wr := by
  obtain ⟨subs, aS, cS, h1, h2, h3, h4, h5, _⟩ := h
  exact ⟨subs, aS, cS, h1, h2, h3, h4, h5, KeptO.refl _ _⟩
theorem KReadSt.kept {a : Option Addr} {n c : Nat} {bs : List UInt8} {glyphs g9 : Nat} {mc : Value → Array Value} {w V : World} {q : Nat} {wr : World} (h : KReadSt a n c bs glyphs g9 mc w V q wr) : KeptO (ownK g9) V wr := by
  obtain ⟨_, _, _, _, _, _, _, _, h6⟩ := h
  exact h6
theorem KReadSt.from {a : Option Addr} {n c : Nat} {bs : List UInt8} {glyphs g9 : Nat} {mc : Value → Array Value} {w V V2 : World} {q : Nat} {wr : World} (h : KReadSt a n c bs glyphs g9 mc w V2 q wr) (hk : KeptO (ownK g9) V V2) : KReadSt a n c bs glyphs g9 mc w V q wr := by
  obtain ⟨subs, aS, cS, h1, h2, h3, h4, h5, h6⟩ := h
  exact ⟨subs, aS, cS, h1, h2, h3, h4, h5, hk.trans h6⟩
/-- One lookup more. -/
theorem KReadSt.more {a : Option Addr} {n c : Nat} {bs : List UInt8} {glyphs g9 : Nat} {mc : Value → Array Value} {w V W W' : World} {q : Nat} {subs : List SubD} {aS aS' : Option Addr} {cS cS' : Nat} (hq : subs.length = q) (s : SubD) (hw9 : w.heap.size ≤ g9)
    (h2 : W.heap[g9]? = some (.cells (mc (.slice aS q cS)) 45 (0, 0))) (h3 : W.ownsRow (g9 + 1) 40 2 (.slice aS q cS) q (subsV subs)) (h4 : ∀ i s, subs[i]? = some s → SubHere a n c bs glyphs i s ∧ HasN (g9 + 1) W s.a' (encRs s.rs)) (h5 : Below w.heap.size w W) (h6 : KeptO (ownK g9) V W)
    (hs : SubHere a n c bs glyphs q s) (hsn : HasN (g9 + 1) W s.a' (encRs s.rs)) (hrow : W'.ownsRow (g9 + 1) 40 2 (.slice aS' (q + 1) cS') (q + 1) (subsV subs ++ s.v)) (hb : Below (g9 + 1) W W') (hg : W.grownBy W' (Value.slice aS q cS).ownBlock) (hmc : ∀ x y, (mc x).setIfInBounds 9 y = mc y) :
    KReadSt a n c bs glyphs g9 mc w V (q + 1) (W'.setCell ⟨g9, 9, none⟩ (.slice aS' (q + 1) cS')) := by
  have hk : KeptO (fun k t => k ≠ g9 ∧ t = 40) W W' := ⟨hg.size, fun k cs t fz h1 ht => by
    by_cases e : k = g9
    · subst e
      exact hb.block _ (Nat.lt_succ_self _)
    · exact (KeptO.grown (own := fun _ t => t = 40) h3 hg (fun _ _ => rfl)).2 k cs t fz h1 (fun h => ht ⟨e, h⟩)⟩
  have h9 : W'.heap[g9]? = some (.cells (mc (.slice aS q cS)) 45 (0, 0)) := (hb.block _ (Nat.lt_succ_self _)).trans h2
  refine ⟨subs ++ [s], aS', cS', by simp [hq], ?_, ?_, ?_, ?_, ?_⟩
  · have := set_heap_at (o := 9) (.slice aS' (q + 1) cS') h9
    rwa [hmc] at this
  · rw [show subsV (subs ++ [s]) = subsV subs ++ s.v by simp [subsV]]
    exact set_owns _ hrow (by
      intro e
      rcases hrow.2 with ⟨hv, _⟩ | ⟨b, cap, cur, hv, hgb, _⟩
      · rw [hv] at e; cases e
      · rw [hv] at e
        injection e with e
        have e : g9 = b := e
        omega)
  · intro i x hx
    rw [List.getElem?_append] at hx
    split at hx
    · obtain ⟨y1, y2⟩ := h4 i x hx
      exact ⟨y1, (y2.keptO hk (fun k _ h => absurd h.2 (by decide))).set (Nat.lt_succ_self _) _⟩
    · rename_i hlt
      have hi : i = q := by
        have := (List.getElem?_eq_some_iff.1 hx).1
        simp at this
        omega
      subst hi
      rw [hq, Nat.sub_self] at hx
      simp at hx
      subst hx
      exact ⟨hs, (hsn.keptO hk (fun k _ h => absurd h.2 (by decide))).set (Nat.lt_succ_self _) _⟩
  · exact (h5.trans ((hb.mono (by omega)))).setCell (p := ⟨g9, 9, none⟩) hw9 _
  · refine h6.trans ⟨by simp; exact hk.1, fun k cs t fz h1 ht => ?_⟩
    rw [set_heap_other _ (fun e => ht (.inl e))]
    exact hk.2 k cs t fz h1 (fun h => ht (.inr h.2))
theorem heap10_at {W : World} {g : Nat} {x0 x1 x2 x3 x4 x5 x6 x7 x8 x9 : Value} {t : TypeId} (h : W.heap[g]? = some (.cells #[x0, x1, x2, x3, x4, x5, x6, x7, x8, x9] t (0, 0))) (v0 v1 v2 v3 v4 v5 v6 v7 v8 v9 : Value) :
    ((((((((((W.setCell ⟨g, 0, none⟩ v0).setCell ⟨g, 1, none⟩ v1).setCell ⟨g, 2, none⟩ v2).setCell ⟨g, 3, none⟩ v3).setCell ⟨g, 4, none⟩ v4).setCell ⟨g, 5, none⟩ v5).setCell ⟨g, 6, none⟩ v6).setCell ⟨g, 7, none⟩ v7).setCell ⟨g, 8, none⟩ v8).setCell ⟨g, 9, none⟩ v9).heap[g]? = some (.cells #[v0, v1, v2, v3, v4, v5, v6, v7, v8, v9] t (0, 0)) := by
  have h := set_heap_at (o := 0) v0 h
  have h := set_heap_at (o := 1) v1 h
  have h := set_heap_at (o := 2) v2 h
  have h := set_heap_at (o := 3) v3 h
  have h := set_heap_at (o := 4) v4 h
  have h := set_heap_at (o := 5) v5 h
  have h := set_heap_at (o := 6) v6 h
  have h := set_heap_at (o := 7) v7 h
  have h := set_heap_at (o := 8) v8 h
  have h := set_heap_at (o := 9) v9 h
  simpa using h
theorem below10 {B : Nat} {w W : World} (h : Below B w W) {g : Nat} (hg : B ≤ g) (v0 v1 v2 v3 v4 v5 v6 v7 v8 v9 : Value) :
    Below B w ((((((((((W.setCell ⟨g, 0, none⟩ v0).setCell ⟨g, 1, none⟩ v1).setCell ⟨g, 2, none⟩ v2).setCell ⟨g, 3, none⟩ v3).setCell ⟨g, 4, none⟩ v4).setCell ⟨g, 5, none⟩ v5).setCell ⟨g, 6, none⟩ v6).setCell ⟨g, 7, none⟩ v7).setCell ⟨g, 8, none⟩ v8).setCell ⟨g, 9, none⟩ v9) := by
  exact ((((((((((h.setCell (p := ⟨g, 0, none⟩) hg v0).setCell (p := ⟨g, 1, none⟩) hg v1).setCell (p := ⟨g, 2, none⟩) hg v2).setCell (p := ⟨g, 3, none⟩) hg v3).setCell (p := ⟨g, 4, none⟩) hg v4).setCell (p := ⟨g, 5, none⟩) hg v5).setCell (p := ⟨g, 6, none⟩) hg v6).setCell (p := ⟨g, 7, none⟩) hg v7).setCell (p := ⟨g, 8, none⟩) hg v8).setCell (p := ⟨g, 9, none⟩) hg v9)
def CReadIs (a : Option Addr) (n c : Nat) (bs : List UInt8) (glyphs : Nat) (w : World) (e : Ending) (w' : World) : Prop :=
  ((∃ rs S qs a' c' aS cS subs, COk bs glyphs rs S qs ∧ subs.map SubD.rs = qs ∧ e = .returned (.tuple #[.agg ((mrefV a n c bs 2 rs S a' c').push (.slice aS subs.length cS)), .bool true]) ∧ MRf a n c bs glyphs 2 rs S a' w' ∧ SubsIs glyphs aS subs w' ∧ ∀ i s, subs[i]? = some s → SubHere a n c bs glyphs i s) ∨
   ((∀ rs S qs, ¬ COk bs glyphs rs S qs) ∧ ∃ a0 n0 c0 i1 i2 i3 i4 i5 i6 a7 n7 c7 a8 n8 c8 a9 n9 c9, e = .returned (.tuple #[.agg #[.slice a0 n0 c0, .int .i64 i1, .int .i64 i2, .int .i64 i3, .int .i64 i4, .int .i64 i5, .int .i64 i6, .slice a7 n7 c7, .slice a8 n8 c8, .slice a9 n9 c9], .bool false]))) ∧ Below w.heap.size w w'
set_option maxRecDepth 100000 in
set_option maxHeartbeats 6400000 in
theorem refcread_none (a : Option Addr) (n c : Nat) (bs : List UInt8) (glyphs : Nat) (zg : Int) (hzg : zg = (glyphs : Nat)) (w : World) (h : Has w a (bytesV bs)) (hl : bs.length = n) (hn : n ≤ c) (hc : c ≤ maxLen) (h20 : n ≤ 4000) (hg1 : 1 ≤ glyphs) (hg2 : glyphs ≤ 65535) (hno : ∀ rs S, ¬ MOk bs glyphs 2 rs S) :
    Calls Try.prog 16 #[.slice a n c, .int .i64 zg] w (CReadIs a n c bs glyphs w) := by
  have hAC := allocC
  have hAF := allocF
  subst hzg
  have HNO := Lib.hid (show ∀ rs S qs, ¬ COk bs glyphs rs S qs from fun rs S qs h => hno rs S h.mok)
  have HRD := Lib.hid (fun W (hW : Below w.heap.size w W) => refread_no a n c bs glyphs 2 (glyphs : Int) 2 rfl rfl W (h.below hW) hl hn hc h20 hg1 hg2 (by decide) hno)
  have HU := Lib.hid (fun W (hW : Below w.heap.size w W) => qAt_any a n c bs 16 16 rfl W (h.below hW) hl (Nat.le_trans hn hc) (by omega))
  have hq := qAt_bound bs 16
  generalize qAt bs 16 = Q at *
  clear h hl hno
  unfold zeroMV at HRD
  unfold CReadIs
  go_enter Try.func16, Try.ntmps16
  go_wp2_with (first
    | (go_at_call 42; (with_reducible refine (HRD.out _ (by exact blw)).mono ?_); rintro e w1 ⟨rfl, hb1⟩; have h1c := bc hb1; have h1f := bf hb1; have h1z := hb1.size; simp only [World.size_alloc] at h1z)
    | (go_at_call 43; (with_reducible refine (HU.out _ (by exact blw)).mono ?_); rintro e wu ⟨rfl, rfl⟩))
  have x4 : w1.heap[w.heap.size]? = some (.cells #[.slice none 0 0, .int .i64 0, .int .i64 0, .int .i64 0, .int .i64 0, .int .i64 0, .int .i64 0, .slice none 0 0, .slice none 0 0, .slice none 0 0] 45 (0, 0)) := (hb1.block _ (by simp)).trans ((heap_push _ _ _).trans (if_pos rfl))
  have y4 : ((w1.alloc (Obj.cells #[.slice none 0 0, .int .i64 0, .int .i64 0, .int .i64 0, .int .i64 0, .int .i64 0, .int .i64 0, .slice none 0 0, .slice none 0 0] 42)).alloc (Obj.cells #[.slice none 0 0, .int .i64 0, .int .i64 0, .int .i64 0, .int .i64 0, .int .i64 0, .int .i64 0, .slice none 0 0, .slice none 0 0, .slice none 0 0] 45)).heap[w.heap.size]? = _ := ((balloc (balloc (brefl w1) _) _).block _ (by omega)).trans x4
  have z4 := heap10_at y4 (.slice none 0 0) (.int .i64 0) (.int .i64 0) (.int .i64 0) (.int .i64 0) (.int .i64 0) (.int .i64 0) (.slice none 0 0) (.slice none 0 0) (.slice none 0 0)
  have q4 := fun o => cell_of_heap z4 o
  have hbw : Below w.heap.size w w1 := blw
  refine bodyPost_ret (v := .tuple #[.agg #[.slice none 0 0, .int .i64 0, .int .i64 0, .int .i64 0, .int .i64 0, .int .i64 0, .int .i64 0, .slice none 0 0, .slice none 0 0, .slice none 0 0], .bool false]) (by simp [results, Try.results16, go_sem, q4]) rfl ?_
  exact ⟨.inr ⟨HNO.out, _, _, _, _, _, _, _, _, _, _, _, _, _, _, _, _, _, _, rfl⟩, below10 (balloc (balloc hbw _) _) (Nat.le_refl _) _ _ _ _ _ _ _ _ _ _⟩
theorem tb_info : (Try.prog.info? 40).map (fun i => (i.zero, i.size, i.bytes)) = some (some (.agg #[.slice none 0 0, .slice none 0 0]), 2, 48) := by kernel_rfl
def subsN (g : Nat) (w : World) : Nat := match w.cell? ⟨g, 9, none⟩ with
  | some (.slice _ n _) => n
  | _ => 0
theorem subsN_is {g : Nat} {w : World} {x0 x1 x2 x3 x4 x5 x6 x7 x8 : Value} {aS : Option Addr} {q cS : Nat} {t : TypeId} (h : w.heap[g]? = some (.cells #[x0, x1, x2, x3, x4, x5, x6, x7, x8, .slice aS q cS] t (0, 0))) : subsN g w = q := by
  unfold subsN
  rw [cell_of_heap h]
  rfl
end Go.Proofs.Ytcegoenlajkgfaa
end
section

/- Laws for a struct of some cells: loaded, stored, made anew, in one step each. Conditions: the block is known whole. -/
namespace Go.Proofs.Ytcegoenlajkgfaa
open Go.RowKit Go.Lib

theorem wpOpVK {P : Program} {w : World} {ops : Array Oper} {rest : List Oper} {o : Oper} {a : Act} {Q : Exit → Act → World → Prop} (hgd : o.guard = none) (v : Value) (w' : World) (hr : (execOp a.eval o).run P w = .ok (.value v) w') (h : wpList P ops Q rest (a.put o.dst v) w') : wpList P ops Q (o :: rest) a w :=
  wpList_plain hgd fun K hK => by
    show o.upon P a K Q ((execOp a.eval o).run P w)
    rw [hr]
    exact hK _ _ h
theorem wpOpUK {P : Program} {w : World} {ops : Array Oper} {rest : List Oper} {o : Oper} {a : Act} {Q : Exit → Act → World → Prop} (hgd : o.guard = none) (w' : World) (hr : (execOp a.eval o).run P w = .ok .skip w') (h : wpList P ops Q rest (a.put o.dst undef) w') : wpList P ops Q (o :: rest) a w :=
  wpList_plain hgd fun K hK => by
    show o.upon P a K Q ((execOp a.eval o).run P w)
    rw [hr]
    exact hK _ _ h
theorem wpAllocK {P : Program} {w : World} {ops : Array Oper} {rest : List Oper} {o : Oper} {a : Act} {Q : Exit → Act → World → Prop} (hgd : o.guard = none) (t : TypeId) (ho : o.op = .alloc t) (zs : Array Value) (hz : ∀ w, (Instr.alloc t true (.tuple #[])).run P w = .ok (.pointer (some ⟨w.heap.size, 0, none⟩)) (w.alloc (.cells zs t)))
    (h : wpList P ops Q rest (a.put o.dst (.pointer (some ⟨w.heap.size, 0, none⟩))) (w.alloc (.cells zs t))) : wpList P ops Q (o :: rest) a w :=
  wpOpVK hgd (.pointer (some ⟨w.heap.size, 0, none⟩)) (w.alloc (.cells zs t)) (by unfold execOp; rw [ho]; simp only [Sem.run_bind, Sem.run_pure, Sem.run_map, hz, Result.andThen]) h
theorem wpStoreK {P : Program} {w : World} {ops : Array Oper} {rest : List Oper} {o : Oper} {a : Act} {Q : Exit → Act → World → Prop} (hgd : o.guard = none) (t : TypeId) (p x : Operand) (ho : o.op = .store t p x) (g : Nat) (c c' : Array Value) (hp : a.eval p = .pointer (some ⟨g, 0, none⟩)) (hx : a.eval x = .agg c') (hg : w.heap[g]? = some (.cells c t (0, 0)))
    (hi : (P.info? t).map (·.size) = some c'.size) (hs : c.size = c'.size) (h1 : c'.all (·.oneCell') = true)
    (h : ∀ w', w'.heap[g]? = some (.cells c' t (0, 0)) → (∀ k, k ≠ g → w'.heap[k]? = w.heap[k]?) → w'.heap.size = w.heap.size → Below g w w' → wpList P ops Q rest (a.put o.dst undef) w') : wpList P ops Q (o :: rest) a w :=
  wpOpUK hgd (w.setRow g c') (by unfold execOp; rw [ho]; simp only [hp, hx, Instr.storeAt, Instr.sureAddr, Sem.run_bind, Sem.run_pure, Sem.run_map, Result.andThen, run_storeVar_row w g t t c c' hg hi hs h1]) (h _ (setRow_heap w g c _ t _ hg) (fun k hk => setRow_other w g k _ hk) (by simp [World.setRow]) (below_setRow (Below.refl _ _) (Nat.le_refl _) _))
/-- Rows and cells that lie elsewhere stay behind a store. -/
theorem owns_else {w w' : World} {base e size n g : Nat} {v : Value} {xs : List Value} (h : w.ownsRow base e size v n xs) (hg : g < base) (hk : ∀ k, k ≠ g → w'.heap[k]? = w.heap[k]?) : w'.ownsRow base e size v n xs := by
  refine ⟨h.1, ?_⟩
  rcases h.2 with q | ⟨q, cap, cur, hv, hq, hh, r⟩
  · exact .inl q
  · exact .inr ⟨q, cap, cur, hv, hq, by rw [hk q (by omega)]; exact hh, r⟩
theorem has_else {w w' : World} {a : Option Addr} {xs : List Value} {g : Nat} (h : Has w a xs) (hne : ∀ p, a = some p → xs ≠ [] → p.block ≠ g) (hk : ∀ k, k ≠ g → w'.heap[k]? = w.heap[k]?) : Has w' a xs := by
  intro j u hu
  obtain ⟨p, hp, hc⟩ := h j u hu
  refine ⟨p, hp, ?_⟩
  rw [← hc]
  unfold World.cell?
  rw [add_block, hk p.block (hne p hp (by rintro rfl; simp at hu))]
theorem hasN_else {B : Nat} {w w' : World} {a : Option Addr} {xs : List Value} {g : Nat} (h : HasN B w a xs) (hg : g < B) (hk : ∀ k, k ≠ g → w'.heap[k]? = w.heap[k]?) : HasN B w' a xs :=
  ⟨has_else h.1 (fun p hp hx => by have := (h.2 hx p hp).1; omega) hk, fun hx p hp => by obtain ⟨h1, cs, fz, h2⟩ := h.2 hx p hp; exact ⟨h1, cs, fz, (hk _ (by omega)).trans h2⟩⟩
theorem alloc06 (w : World) : (Instr.alloc 40 true (.tuple #[])).run Try.prog w = .ok (.pointer (some ⟨w.heap.size, 0, none⟩)) (w.alloc (.cells #[.slice none 0 0, .slice none 0 0] 40)) := by kernel_rfl
theorem size06 : (Try.prog.info? 40).map (·.size) = some 2 := by kernel_rfl
end Go.Proofs.Ytcegoenlajkgfaa
end
