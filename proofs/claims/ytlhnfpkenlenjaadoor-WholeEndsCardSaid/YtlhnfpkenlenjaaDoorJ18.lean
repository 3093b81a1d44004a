/- Joined from: DBits RAct RDo DSpec DRun RRun RKeep RSpk. -/
import Derived.Test.YtlhnfpkenlenjaaDoorJ01
import Derived.Test.YtlhnfpkenlenjaaDoorJ17
import Derived.Test.YtlhnfpkenlenjaaDoorJ16
import Derived.Test.YtlhnfpkenlenjaaDoorJ08
import Derived.Test.YtlhnfpkenlenjaaDoorJ12
import Derived.Test.YtlhnfpkenlenjaaDoorJ14
section

/- Flags of an entry, as bits. Condition: numbers of two bytes. -/
namespace Go.Proofs.YtlhnfpkenlenjaaDoor
open Go.RowKit

theorem bits_and (v m : Nat) (hv : v ≤ 65535) (hm : m ≤ 65535) : bits .and .i64 (v : Int) (m : Int) = ((v &&& m : Nat) : Int) := by
  have e : (BitVec.ofInt 64 (v : Int)).toNat = v := by rw [BitVec.toNat_ofInt]; omega
  have e2 : (BitVec.ofInt 64 (m : Int)).toNat = m := by rw [BitVec.toNat_ofInt]; omega
  have h : v &&& m ≤ v := Nat.and_le_left
  simp only [bits, BitVec.toNat_and]
  show IntKind.wrap .i64 (((BitVec.ofInt 64 (v : Int)).toNat &&& (BitVec.ofInt 64 (m : Int)).toNat : Nat) : Int) = _
  rw [e, e2, IntKind.wrap_i64]
  omega
theorem nat_and_pow (v k : Nat) : v &&& 2 ^ k = if v / 2 ^ k % 2 = 1 then 2 ^ k else 0 := by
  apply Nat.eq_of_testBit_eq
  intro i
  rw [Nat.testBit_and, Nat.testBit_two_pow]
  by_cases hi : k = i
  · subst hi
    by_cases hb : v / 2 ^ k % 2 = 1
    · rw [if_pos hb, Nat.testBit_two_pow, Nat.testBit_eq_decide_div_mod_eq, hb]; simp
    · rw [if_neg hb, Nat.testBit_eq_decide_div_mod_eq]; simp [hb]
  · split
    · rw [Nat.testBit_two_pow]; simp [hi]
    · simp [hi]
theorem flag_yes (v k : Nat) (hv : v ≤ 65535) (hk : 2 ^ k ≤ 65535) (z : Int) (hz : z = ((2 ^ k : Nat) : Int)) (h : v / 2 ^ k % 2 = 1) : bits .and .i64 (v : Int) z = z := by
  subst hz
  rw [bits_and _ _ hv hk, nat_and_pow, if_pos h]
theorem flag_no (v k : Nat) (hv : v ≤ 65535) (hk : 2 ^ k ≤ 65535) (z : Int) (hz : z = ((2 ^ k : Nat) : Int)) (h : ¬ v / 2 ^ k % 2 = 1) : bits .and .i64 (v : Int) z = 0 := by
  subst hz
  rw [bits_and _ _ hv hk, nat_and_pow, if_neg h]
  rfl
theorem low_four (v : Nat) (hv : v ≤ 65535) : bits .and .i64 (v : Int) 15 = ((v % 16 : Nat) : Int) := by
  rw [show (15 : Int) = ((15 : Nat) : Int) from rfl, bits_and _ _ hv (by decide)]
  rw [show (15 : Nat) = 2 ^ 4 - 1 from rfl, Nat.and_two_pow_sub_one_eq_mod]
end Go.Proofs.YtlhnfpkenlenjaaDoor
end
section

/- What an entry of a subtable that changes the order does at a place: the function within rear's Run, and drive's Plain of it. Conditions: the table of verbs lies in memory; a line, and the two numbers of its row; sizes. -/
namespace Go.Proofs.YtlhnfpkenlenjaaDoor
open Go.RowKit Go.Lib

/-- The glyphs, and the row's two places. -/
abbrev RX := List (Int × Int) × Nat × Nat
def firstR (x : RX) (z F : Nat) : Nat := if F / 32768 % 2 = 1 then min z x.1.length else x.2.1
def lastR (x : RX) (z F : Nat) : Nat := if F / 8192 % 2 = 1 then min (z + 1) x.1.length else x.2.2
def lineR (l : List (Int × Int)) (f t v : Nat) : List (Int × Int) := if okV (v : Nat) ((t : Int) - (f : Int)) then ordG l (f : Nat) (ordV v (t - f)) else l
def actR (x : RX) (z F : Nat) : RX := (lineR x.1 (firstR x z F) (lastR x z F) (F % 16), firstR x z F, lastR x z F)
theorem lineR_length (l : List (Int × Int)) (f t v : Nat) : (lineR l f t v).length = l.length := by
  unfold lineR
  split
  · exact ordG_length _ _ _
  · rfl
theorem ownBlock_map (a : Option Addr) (n c : Nat) : (Value.slice a n c).ownBlock = a.map (·.block) := by cases a <;> rfl
/-- What the function within Run may change: the line's row, and both numbers. -/
def ownR (bk : Option Nat) (g5 g6 k t : Nat) : Prop := (t = 53 ∧ bk = some k) ∨ (t = 3 ∧ (k = g5 ∨ k = g6))
def ownG (_ t : Nat) : Prop := t = 53 ∨ t = 3
theorem ownR.g {bk : Option Nat} {g5 g6 k t : Nat} (h : ownR bk g5 g6 k t) : ownG k t := h.imp And.left And.left
/-- What the function within Run sees. -/
structure RIn (bk : Option Nat) (B gl g3 g5 g6 : Nat) (x : RX) (w : World) : Prop where
  line : ∃ a c, GIs B gl a c x.1 w ∧ a.map (·.block) = bk
  at3 : w.heap[g3]? = some (.cells #[.pointer (some ⟨gl, 0, none⟩)] 42 (0, 0))
  at5 : w.heap[g5]? = some (.cells #[.int .i64 (x.2.1 : Nat)] 3 (0, 0))
  at6 : w.heap[g6]? = some (.cells #[.int .i64 (x.2.2 : Nat)] 3 (0, 0))
  ne : g5 ≠ g6
  few : x.1.length ≤ 1000000
  fst : x.2.1 ≤ x.1.length
  lst : x.2.2 ≤ x.1.length
theorem RIn.below {bk : Option Nat} {B gl g3 g5 g6 : Nat} {x : RX} {w w' : World} (h : RIn bk B gl g3 g5 g6 x w) (hb : Below w.heap.size w w') : RIn bk B gl g3 g5 g6 x w' :=
  ⟨by obtain ⟨a, c, hg, hbk⟩ := h.line; exact ⟨a, c, hg.below hb, hbk⟩, (hb.block _ (Array.getElem?_eq_some_iff.1 h.at3).1).trans h.at3, (hb.block _ (Array.getElem?_eq_some_iff.1 h.at5).1).trans h.at5, (hb.block _ (Array.getElem?_eq_some_iff.1 h.at6).1).trans h.at6, h.ne, h.few, h.fst, h.lst⟩
theorem firstR_le {bk : Option Nat} {B gl g3 g5 g6 : Nat} {x : RX} {w : World} (h : RIn bk B gl g3 g5 g6 x w) (z F : Nat) : firstR x z F ≤ x.1.length := by
  unfold firstR
  have := h.fst
  split <;> omega
theorem lastR_le {bk : Option Nat} {B gl g3 g5 g6 : Nat} {x : RX} {w : World} (h : RIn bk B gl g3 g5 g6 x w) (z F : Nat) : lastR x z F ≤ x.1.length := by
  unfold lastR
  have := h.lst
  split <;> omega
/-- A number is stored into one of both places. -/
theorem RIn.set5 {bk : Option Nat} {B gl g3 g5 g6 : Nat} {x : RX} {w : World} (h : RIn bk B gl g3 g5 g6 x w) (k : Nat) (hk : k ≤ x.1.length) : RIn bk B gl g3 g5 g6 (x.1, k, x.2.2) (w.setCell ⟨g5, 0, none⟩ (.int .i64 (k : Nat))) := by
  have n3 : g3 ≠ g5 := by
    rintro rfl
    have := h.at3.symm.trans h.at5
    injection this with this
    injection this with _ h2 _
    exact absurd h2 (by decide)
  obtain ⟨a, c, hg, hbk⟩ := h.line
  have nl : g5 ≠ gl := by
    rintro rfl
    have := h.at5.symm.trans hg.hd
    injection this with this
    injection this with _ h2 _
    exact absurd h2 (by decide)
  have hr := own_neE hg.row h.at5 (by decide)
  exact ⟨⟨a, c, hg.other nl (by rw [← ownBlock_map a x.1.length c]; exact hr) _, hbk⟩, (set_heap_other _ n3).trans h.at3, set_heap_at _ h.at5, (set_heap_other _ (Ne.symm h.ne)).trans h.at6, h.ne, h.few, hk, h.lst⟩
theorem RIn.set6 {bk : Option Nat} {B gl g3 g5 g6 : Nat} {x : RX} {w : World} (h : RIn bk B gl g3 g5 g6 x w) (k : Nat) (hk : k ≤ x.1.length) : RIn bk B gl g3 g5 g6 (x.1, x.2.1, k) (w.setCell ⟨g6, 0, none⟩ (.int .i64 (k : Nat))) := by
  have n3 : g3 ≠ g6 := by
    rintro rfl
    have := h.at3.symm.trans h.at6
    injection this with this
    injection this with _ h2 _
    exact absurd h2 (by decide)
  obtain ⟨a, c, hg, hbk⟩ := h.line
  have nl : g6 ≠ gl := by
    rintro rfl
    have := h.at6.symm.trans hg.hd
    injection this with this
    injection this with _ h2 _
    exact absurd h2 (by decide)
  have hr := own_neE hg.row h.at6 (by decide)
  exact ⟨⟨a, c, hg.other nl (by rw [← ownBlock_map a x.1.length c]; exact hr) _, hbk⟩, (set_heap_other _ n3).trans h.at3, (set_heap_other _ h.ne).trans h.at5, set_heap_at _ h.at6, h.ne, h.few, h.fst, hk⟩
end Go.Proofs.YtlhnfpkenlenjaaDoor
end
section

/- What rear's Run does by an entry at a place: the function within it. Conditions: as RAct's. -/
namespace Go.Proofs.YtlhnfpkenlenjaaDoor
open Go.RowKit Go.Lib

theorem GStep.keepR {bk : Option Nat} {B gl g5 g6 : Nat} {a a' : Option Addr} {c : Nat} {l : List (Int × Int)} {w w' : World} (h : GStep B gl a a' w w') (hg : GIs B gl a c l w) (hbk : a.map (·.block) = bk) : (∀ k cs t fz, w.heap[k]? = some (.cells cs t fz) → t ≠ 79 → ¬ (ownR bk g5 g6) k t → w'.heap[k]? = w.heap[k]?) := by
  intro k cs t fz hk hl ho
  refine h.keep k (Array.getElem?_eq_some_iff.1 hk).1 ?_ ?_
  · rintro rfl
    rw [hg.hd] at hk
    injection hk with hk
    injection hk with _ h2 _
    exact hl h2.symm
  · by_cases e : t = 53
    · intro h2; exact ho (.inl ⟨e, hbk.symm.trans h2.symm⟩)
    · rw [← ownBlock_map a l.length c]; exact own_neE hg.row hk e
/-- What RIn is behind a change of the line. -/
theorem RIn.step {bk : Option Nat} {B gl g3 g5 g6 : Nat} {l l' : List (Int × Int)} {f t : Nat} {a : Option Addr} {c : Nat} {w w' : World} (h : RIn bk B gl g3 g5 g6 (l, f, t) w) (hg : GIs B gl a c l w) (hbk : a.map (·.block) = bk) (hl : l'.length = l.length) (h' : GIs B gl a c l' w') (hs : GStep B gl a a w w') : RIn bk B gl g3 g5 g6 (l', f, t) w' := by
  have n3 : g3 ≠ gl := by
    rintro rfl
    have := h.at3.symm.trans hg.hd
    injection this with this
    injection this with _ h2 _
    exact absurd h2 (by decide)
  have n5 : g5 ≠ gl := by
    rintro rfl
    have := h.at5.symm.trans hg.hd
    injection this with this
    injection this with _ h2 _
    exact absurd h2 (by decide)
  have n6 : g6 ≠ gl := by
    rintro rfl
    have := h.at6.symm.trans hg.hd
    injection this with this
    injection this with _ h2 _
    exact absurd h2 (by decide)
  have r : ∀ k cs t fz, w.heap[k]? = some (.cells cs t fz) → t ≠ 53 → some k ≠ a.map (·.block) := fun k cs t fz hk ht => by rw [← ownBlock_map a l.length c]; exact own_neE hg.row hk ht
  refine ⟨⟨a, c, h', hbk⟩, (hs.keep g3 (Array.getElem?_eq_some_iff.1 h.at3).1 n3 (r _ _ _ _ h.at3 (by decide))).trans h.at3, (hs.keep g5 (Array.getElem?_eq_some_iff.1 h.at5).1 n5 (r _ _ _ _ h.at5 (by decide))).trans h.at5, (hs.keep g6 (Array.getElem?_eq_some_iff.1 h.at6).1 n6 (r _ _ _ _ h.at6 (by decide))).trans h.at6, h.ne, ?_, ?_, ?_⟩
  · have := h.few; show l'.length ≤ _; rw [hl]; exact this
  · have := h.fst; show f ≤ l'.length; rw [hl]; exact this
  · have := h.lst; show t ≤ l'.length; rw [hl]; exact this
theorem VerbsIn.keepB {B : Nat} {w w' : World} (h : VerbsIn w) (hb : Below B w w') (hG : 0 < B) : VerbsIn w' :=
  ⟨fun k hk => (hb.cell (p := ⟨0, k * 2, none⟩) hG).trans (h.was k hk), fun k hk => (hb.cell (p := ⟨0, k * 2 + 1, none⟩) hG).trans (h.is k hk)⟩
theorem RIn.put5 {bk : Option Nat} {B gl g3 g5 g6 : Nat} {x : RX} {w W : World} (h : RIn bk B gl g3 g5 g6 x W) (hk : KeepC B (ownR bk g5 g6) w W) (hB5 : B ≤ g5) (k : Nat) (hkl : k ≤ x.1.length) : RIn bk B gl g3 g5 g6 (x.1, k, x.2.2) (W.setCell ⟨g5, 0, none⟩ (.int .i64 (k : Nat))) ∧ KeepC B (ownR bk g5 g6) w (W.setCell ⟨g5, 0, none⟩ (.int .i64 (k : Nat))) :=
  ⟨h.set5 k hkl, hk.set hB5 h.at5 (.inr ⟨rfl, .inl rfl⟩) _⟩
theorem RIn.put6 {bk : Option Nat} {B gl g3 g5 g6 : Nat} {x : RX} {w W : World} (h : RIn bk B gl g3 g5 g6 x W) (hk : KeepC B (ownR bk g5 g6) w W) (hB6 : B ≤ g6) (k : Nat) (hkl : k ≤ x.1.length) : RIn bk B gl g3 g5 g6 (x.1, x.2.1, k) (W.setCell ⟨g6, 0, none⟩ (.int .i64 (k : Nat))) ∧ KeepC B (ownR bk g5 g6) w (W.setCell ⟨g6, 0, none⟩ (.int .i64 (k : Nat))) :=
  ⟨h.set6 k hkl, hk.set hB6 h.at6 (.inr ⟨rfl, .inr rfl⟩) _⟩
theorem RIn.len {bk : Option Nat} {B gl g3 g5 g6 : Nat} {x : RX} {W : World} (h : RIn bk B gl g3 g5 g6 x W) (n : Nat) (hn : n = x.1.length) : Calls Tryd.prog 24 #[.pointer (some ⟨gl, 0, none⟩)] W fun e w' => e = .returned (.int .i64 (n : Nat)) ∧ W = w' := by
  obtain ⟨a, c, hg, _⟩ := h.line
  subst hn
  exact glen_any B gl a c x.1 W hg
/-- The row in the verb's order. -/
theorem RIn.ord {bk : Option Nat} {B gl g3 g5 g6 : Nat} {l : List (Int × Int)} {f t : Nat} {W : World} (h : RIn bk B gl g3 g5 g6 (l, f, t) W) (hB : B ≤ W.heap.size) (hBl : B ≤ gl) {Bo : Nat} {o : List Int} {a : Option Addr} {m c : Nat} (hI : IRow Bo o (.slice a m c) W) (hm : o.length = m) (hm6 : m ≤ 1000000) :
    Calls Tryd.prog 34 #[.pointer (some ⟨gl, 0, none⟩), .int .i64 (f : Nat), .slice a m c] W fun e w' => ∃ b, e = .returned (.bool b) ∧ RIn bk B gl g3 g5 g6 (ordG l (f : Nat) o, f, t) w' ∧ KeepC B (ownR bk g5 g6) W w' := by
  obtain ⟨a1, c1, hg, hbk⟩ := h.line
  have hfew : l.length ≤ 1000000 := h.few
  have hf : f ≤ l.length := h.fst
  have hb : ∀ p, a = some p → 0 < m → ∃ cs fz, W.heap[p.block]? = some (.cells cs 3 fz) := by
    intro p hp h0
    subst hp
    obtain ⟨a2, c2, e, ho⟩ := hI
    injection e with e1 e2 e3
    subst e1
    rcases ho.2 with ⟨hv, _⟩ | ⟨g, cap, cur, hv, _, hh, _⟩
    · cases hv
    · injection hv with e4 _ _
      injection e4 with e4
      subst e4
      exact ⟨_, _, hh⟩
  refine (gord_any B gl a1 c1 l (f : Nat) a m c o W hg hI.has (fun p hp h0 e => ?_) (fun p q hp hq h0 e => ?_) hm hBl hB hfew hm6 (by omega) (by omega)).mono ?_
  · obtain ⟨cs, fz, hh⟩ := hb p hp h0
    rw [e, hg.hd] at hh
    injection hh with hh
    injection hh with _ h2 _
    exact absurd h2 (by decide)
  · obtain ⟨cs, fz, hh⟩ := hb p hp h0
    exact own_neE hg.row hh (by decide) (by rw [ownBlock_map, hq, e]; rfl)
  · rintro e w' ⟨rfl, h1, h2⟩
    refine ⟨_, rfl, h.step hg hbk (ordG_length _ _ _) h1 h2, h2.below, h2.below.size, fun k cs t' fz hk ho => ?_⟩
    · by_cases e : t' = 79
      · by_cases e2 : k = gl
        · subst e2
          rw [h1.hd, hg.hd, ordG_length]
        · subst e
          exact h2.keep k (Array.getElem?_eq_some_iff.1 hk).1 e2 (by rw [← ownBlock_map a1 l.length c1]; exact own_neE hg.row hk (by decide))
      · exact h2.keepR hg hbk k cs t' fz hk e ho
/-- The last part: the row stands in the verb's order. -/
def OrdOut (bk : Option Nat) (B gl g3 g5 g6 : Nat) (x : RX) (v : Nat) (w : World) (e : Ending) (w' : World) : Prop :=
  e = .returned (.tuple #[]) ∧ RIn bk B gl g3 g5 g6 (lineR x.1 x.2.1 x.2.2 v, x.2.1, x.2.2) w' ∧ KeepC B (ownR bk g5 g6) w w'
theorem iRow_apart {B : Nat} {l : List Int} {v : Value} {w : World} (h : IRow B l v w) {k : Nat} {cs : Array Value} {t : Nat} {fz : Nat × Nat} (hk : w.heap[k]? = some (.cells cs t fz)) (ht : t ≠ 3) : some k ≠ v.ownBlock := by
  obtain ⟨a, c, rfl, h2⟩ := h
  exact own_neE h2 hk ht
set_option maxRecDepth 100000 in
set_option maxHeartbeats 3200000 in
theorem rdo_any {bk : Option Nat} (B gl g3 g5 g6 : Nat) (x : RX) (z F : Nat) (e0 e2 e3 : Int) (w : World) (h : RIn bk B gl g3 g5 g6 x w) (hV : VerbsIn w) (hB : B ≤ w.heap.size) (hBl : B ≤ gl) (hB5 : B ≤ g5) (hB6 : B ≤ g6) (hG : 0 < B) (hz : z ≤ 1000000000) (hF : F ≤ 65535) :
    Calls Tryd.prog 33 #[.int .i64 (z : Nat), .agg #[.int .i64 e0, .int .i64 (F : Nat), .int .i64 e2, .int .i64 e3], .pointer (some ⟨g3, 0, none⟩), .pointer (some ⟨g5, 0, none⟩), .pointer (some ⟨g6, 0, none⟩)] w fun e w' => e = .returned (.tuple #[]) ∧ RIn bk B gl g3 g5 g6 (actR x z F) w' ∧ KeepC B (ownR bk g5 g6) w w' := by
  have hAC := allocC
  have hAF := allocF
  obtain ⟨l, f, t⟩ := x
  have hfew : l.length ≤ 1000000 := h.few
  have HI := Lib.hid h
  have HKW := Lib.hid (KeepC.refl B (ownR bk g5 g6) w)
  have hw3 := (Array.getElem?_eq_some_iff.1 h.at3).1
  have hw5 := (Array.getElem?_eq_some_iff.1 h.at5).1
  have hw6 := (Array.getElem?_eq_some_iff.1 h.at6).1
  have hb15 := low_four F hF
  obtain ⟨v, hv⟩ : ∃ v, v = F % 16 := ⟨_, rfl⟩
  have hv16 : v < 16 := by omega
  rw [← hv] at hb15
  have HV16 := Lib.hid hv
  obtain ⟨n, hn⟩ : ∃ n, n = l.length := ⟨_, rfl⟩
  have HN := Lib.hid hn
  rw [← hn] at hfew
  have n56 : ¬ g5 = g6 := h.ne
  have n65 : ¬ g6 = g5 := fun e => h.ne e.symm
  have n35 : ¬ g3 = g5 := by
    rintro rfl
    have := h.at3.symm.trans h.at5
    injection this with this
    injection this with _ h2 _
    exact absurd h2 (by decide)
  have n36 : ¬ g3 = g6 := by
    rintro rfl
    have := h.at3.symm.trans h.at6
    injection this with this
    injection this with _ h2 _
    exact absurd h2 (by decide)
  have HO := Lib.hid (fun W (hW : VerbsIn W) (y : Int) (h1 : y ≤ 1000000) (h2 : -9223372036854775808 ≤ y) => vorder_any (v : Nat) y W hW h1 h2)
  have hVB := Lib.hid (fun W (hk : KeepC B (ownR bk g5 g6) w W) => hV.keepB hk.below hG)
  have q3 := cell_of_heap h.at3 0
  have q5 := cell_of_heap h.at5 0
  have q6 := cell_of_heap h.at6 0
  have r5 := froz_of_heap h.at5 0
  have r6 := froz_of_heap h.at6 0
  simp only [List.getElem?_toArray, List.getElem?_cons_zero] at q3 q5 q6
  have hfn : f ≤ n := by rw [hn]; exact h.fst
  have htn : t ≤ n := by rw [hn]; exact h.lst
  obtain ⟨f1, hf1⟩ : ∃ f1, f1 = min z n := ⟨_, rfl⟩
  obtain ⟨t1, ht1⟩ : ∃ t1, t1 = min (z + 1) n := ⟨_, rfl⟩
  have m1 : min (z : Int) (n : Int) = (f1 : Int) := by omega
  have m2 : min ((z : Int) + 1) (n : Int) = (t1 : Int) := by omega
  have hf1n : f1 ≤ n := by omega
  have ht1n : t1 ≤ n := by omega
  have m3 : min z n = f1 := hf1.symm
  have m4 : min (z + 1) n = t1 := ht1.symm
  have HF1 := Lib.hid hf1
  have HT1 := Lib.hid ht1
  clear hf1 ht1
  clear h hV hn hv
  by_cases hA : F / 2 ^ 15 % 2 = 1
  · have hbt15 : bits .and .i64 (F : Int) 32768 = 32768 := flag_yes F 15 hF (by decide) 32768 rfl hA
    by_cases hC : F / 2 ^ 13 % 2 = 1
    · have hbt13 : bits .and .i64 (F : Int) 8192 = 8192 := flag_yes F 13 hF (by decide) 8192 rfl hC
      have P0 := And.intro HI.out HKW.out
      have P1 := P0.1.put5 P0.2 hB5 f1 (by show f1 ≤ l.length; have := HN.out; omega)
      have P2 := P1.1.put6 P1.2 hB6 t1 (by show t1 ≤ l.length; have := HN.out; omega)
      have HL1 := Lib.hid (fun (o : Array Value) => (P0.1.below (balloc (brefl _) (.cells o 55))).len n HN.out)
      have HL2 := Lib.hid (fun (o : Array Value) => (P1.1.below (balloc (brefl _) (.cells o 55))).len n HN.out)
      have HQ := Lib.hid (fun (o : Array Value) => And.intro (P2.1.below (balloc (brefl _) (.cells o 55))) (P2.2.trans (KeepC.of (own := (ownR bk g5 g6)) (balloc (brefl _) (.cells o 55)) (Nat.le_trans hB P2.2.size))))
      clear P0 P1 P2 HI HKW
      go_enter Tryd.func33, Tryd.ntmps33
      go_wp2_with (first | (go_at_call 24; (with_reducible refine (HL1.out _).mono ?_); rintro e w_ ⟨rfl, rfl⟩) | (go_at_call 24; (with_reducible refine (HL2.out _).mono ?_); rintro e w_ ⟨rfl, rfl⟩))
      with_reducible refine (HO.out _ (hVB.out _ (HQ.out _).2) ((t1 : Int) - (f1 : Int)) (by omega) (by omega)).mono ?_
      have e1 : firstR (l, f, t) z F = f1 := by unfold firstR; rw [if_pos hA, ← HN.out]; exact HF1.out.symm
      have e2 : lastR (l, f, t) z F = t1 := by unfold lastR; rw [if_pos hC, ← HN.out]; exact HT1.out.symm
      have HE := Lib.hid (show actR (l, f, t) z F = (lineR l f1 t1 v, f1, t1) from by unfold actR; rw [e1, e2, ← HV16.out])
      clear e1 e2
      rintro e w2 (⟨hok, ov, rfl, hIo, hb2⟩ | ⟨hno, rfl, hb2⟩)
      · have hq := HQ.out #[.int .i64 e0, .int .i64 (F : Nat), .int .i64 e2, .int .i64 e3]
        have hR := hq.1.below hb2
        have hk2 := hq.2.trans (KeepC.of hb2 (Nat.le_trans hB hq.2.size))
        obtain ⟨vn, nn, hvn, hnn, g1, g2, g3'⟩ := okV_pre hok
        rw [Int.toNat_natCast, show ((t1 : Int) - (f1 : Int)).toNat = t1 - f1 by omega] at hIo
        have hol : (ordV v (t1 - f1)).length = t1 - f1 := ordV_length _ _ (by omega) (by omega) (by rw [show v = vn by omega]; omega)
        obtain ⟨ao, co, rfl, _⟩ := hIo.slice
        rw [hol] at hIo
        have q3b := cell_of_heap hR.at3 0
        have q5b := cell_of_heap hR.at5 0
        simp only [List.getElem?_toArray, List.getElem?_cons_zero] at q3b q5b
        have HORD := Lib.hid (hR.ord (Nat.le_trans hB hk2.size) hBl hIo hol (by omega))
        have HK2 := Lib.hid hk2
        have HOKV := Lib.hid hok
        rw [hol]
        clear hq hR hk2 hIo hol hok hb2 hvn hnn g1 g2 g3' HQ HO hVB HL1 HL2
        go_wp2_with (go_at_call 34; (with_reducible refine HORD.out.mono ?_); rintro e w3 ⟨b, rfl, hR3, hk3⟩)
        go_end0
        rw [HE.out, lineR, if_pos HOKV.out]
        exact ⟨rfl, hR3, HK2.out.trans hk3⟩
      · go_wp2_with fail
        go_end0
        have hq := HQ.out #[.int .i64 e0, .int .i64 (F : Nat), .int .i64 e2, .int .i64 e3]
        rw [HE.out, lineR, if_neg hno]
        exact ⟨rfl, hq.1.below hb2, hq.2.trans (KeepC.of hb2 (Nat.le_trans hB hq.2.size))⟩
    · have hbt13 : bits .and .i64 (F : Int) 8192 = 0 := flag_no F 13 hF (by decide) 8192 rfl hC
      have P0 := And.intro HI.out HKW.out
      have P1 := P0.1.put5 P0.2 hB5 f1 (by show f1 ≤ l.length; have := HN.out; omega)
      have HL1 := Lib.hid (fun (o : Array Value) => (P0.1.below (balloc (brefl _) (.cells o 55))).len n HN.out)
      have HL2 := Lib.hid (fun (o : Array Value) => (P1.1.below (balloc (brefl _) (.cells o 55))).len n HN.out)
      have HQ := Lib.hid (fun (o : Array Value) => And.intro (P1.1.below (balloc (brefl _) (.cells o 55))) (P1.2.trans (KeepC.of (own := (ownR bk g5 g6)) (balloc (brefl _) (.cells o 55)) (Nat.le_trans hB P1.2.size))))
      clear P0 P1 HI HKW
      go_enter Tryd.func33, Tryd.ntmps33
      go_wp2_with (first | (go_at_call 24; (with_reducible refine (HL1.out _).mono ?_); rintro e w_ ⟨rfl, rfl⟩) | (go_at_call 24; (with_reducible refine (HL2.out _).mono ?_); rintro e w_ ⟨rfl, rfl⟩))
      with_reducible refine (HO.out _ (hVB.out _ (HQ.out _).2) ((t : Int) - (f1 : Int)) (by omega) (by omega)).mono ?_
      have e1 : firstR (l, f, t) z F = f1 := by unfold firstR; rw [if_pos hA, ← HN.out]; exact HF1.out.symm
      have e2 : lastR (l, f, t) z F = t := by unfold lastR; rw [if_neg hC]
      have HE := Lib.hid (show actR (l, f, t) z F = (lineR l f1 t v, f1, t) from by unfold actR; rw [e1, e2, ← HV16.out])
      clear e1 e2
      rintro e w2 (⟨hok, ov, rfl, hIo, hb2⟩ | ⟨hno, rfl, hb2⟩)
      · have hq := HQ.out #[.int .i64 e0, .int .i64 (F : Nat), .int .i64 e2, .int .i64 e3]
        have hR := hq.1.below hb2
        have hk2 := hq.2.trans (KeepC.of hb2 (Nat.le_trans hB hq.2.size))
        obtain ⟨vn, nn, hvn, hnn, g1, g2, g3'⟩ := okV_pre hok
        rw [Int.toNat_natCast, show ((t : Int) - (f1 : Int)).toNat = t - f1 by omega] at hIo
        have hol : (ordV v (t - f1)).length = t - f1 := ordV_length _ _ (by omega) (by omega) (by rw [show v = vn by omega]; omega)
        obtain ⟨ao, co, rfl, _⟩ := hIo.slice
        rw [hol] at hIo
        have q3b := cell_of_heap hR.at3 0
        have q5b := cell_of_heap hR.at5 0
        simp only [List.getElem?_toArray, List.getElem?_cons_zero] at q3b q5b
        have HORD := Lib.hid (hR.ord (Nat.le_trans hB hk2.size) hBl hIo hol (by omega))
        have HK2 := Lib.hid hk2
        have HOKV := Lib.hid hok
        rw [hol]
        clear hq hR hk2 hIo hol hok hb2 hvn hnn g1 g2 g3' HQ HO hVB HL1 HL2
        go_wp2_with (go_at_call 34; (with_reducible refine HORD.out.mono ?_); rintro e w3 ⟨b, rfl, hR3, hk3⟩)
        go_end0
        rw [HE.out, lineR, if_pos HOKV.out]
        exact ⟨rfl, hR3, HK2.out.trans hk3⟩
      · go_wp2_with fail
        go_end0
        have hq := HQ.out #[.int .i64 e0, .int .i64 (F : Nat), .int .i64 e2, .int .i64 e3]
        rw [HE.out, lineR, if_neg hno]
        exact ⟨rfl, hq.1.below hb2, hq.2.trans (KeepC.of hb2 (Nat.le_trans hB hq.2.size))⟩
  · have hbt15 : bits .and .i64 (F : Int) 32768 = 0 := flag_no F 15 hF (by decide) 32768 rfl hA
    by_cases hC : F / 2 ^ 13 % 2 = 1
    · have hbt13 : bits .and .i64 (F : Int) 8192 = 8192 := flag_yes F 13 hF (by decide) 8192 rfl hC
      have P0 := And.intro HI.out HKW.out
      have P2 := P0.1.put6 P0.2 hB6 t1 (by show t1 ≤ l.length; have := HN.out; omega)
      have HL1 := Lib.hid (fun (o : Array Value) => (P0.1.below (balloc (brefl _) (.cells o 55))).len n HN.out)
      have HL2 := Lib.hid (fun (o : Array Value) => (P0.1.below (balloc (brefl _) (.cells o 55))).len n HN.out)
      have HQ := Lib.hid (fun (o : Array Value) => And.intro (P2.1.below (balloc (brefl _) (.cells o 55))) (P2.2.trans (KeepC.of (own := (ownR bk g5 g6)) (balloc (brefl _) (.cells o 55)) (Nat.le_trans hB P2.2.size))))
      clear P0 P2 HI HKW
      go_enter Tryd.func33, Tryd.ntmps33
      go_wp2_with (first | (go_at_call 24; (with_reducible refine (HL1.out _).mono ?_); rintro e w_ ⟨rfl, rfl⟩) | (go_at_call 24; (with_reducible refine (HL2.out _).mono ?_); rintro e w_ ⟨rfl, rfl⟩))
      with_reducible refine (HO.out _ (hVB.out _ (HQ.out _).2) ((t1 : Int) - (f : Int)) (by omega) (by omega)).mono ?_
      have e1 : firstR (l, f, t) z F = f := by unfold firstR; rw [if_neg hA]
      have e2 : lastR (l, f, t) z F = t1 := by unfold lastR; rw [if_pos hC, ← HN.out]; exact HT1.out.symm
      have HE := Lib.hid (show actR (l, f, t) z F = (lineR l f t1 v, f, t1) from by unfold actR; rw [e1, e2, ← HV16.out])
      clear e1 e2
      rintro e w2 (⟨hok, ov, rfl, hIo, hb2⟩ | ⟨hno, rfl, hb2⟩)
      · have hq := HQ.out #[.int .i64 e0, .int .i64 (F : Nat), .int .i64 e2, .int .i64 e3]
        have hR := hq.1.below hb2
        have hk2 := hq.2.trans (KeepC.of hb2 (Nat.le_trans hB hq.2.size))
        obtain ⟨vn, nn, hvn, hnn, g1, g2, g3'⟩ := okV_pre hok
        rw [Int.toNat_natCast, show ((t1 : Int) - (f : Int)).toNat = t1 - f by omega] at hIo
        have hol : (ordV v (t1 - f)).length = t1 - f := ordV_length _ _ (by omega) (by omega) (by rw [show v = vn by omega]; omega)
        obtain ⟨ao, co, rfl, _⟩ := hIo.slice
        rw [hol] at hIo
        have q3b := cell_of_heap hR.at3 0
        have q5b := cell_of_heap hR.at5 0
        simp only [List.getElem?_toArray, List.getElem?_cons_zero] at q3b q5b
        have HORD := Lib.hid (hR.ord (Nat.le_trans hB hk2.size) hBl hIo hol (by omega))
        have HK2 := Lib.hid hk2
        have HOKV := Lib.hid hok
        rw [hol]
        clear hq hR hk2 hIo hol hok hb2 hvn hnn g1 g2 g3' HQ HO hVB HL1 HL2
        go_wp2_with (go_at_call 34; (with_reducible refine HORD.out.mono ?_); rintro e w3 ⟨b, rfl, hR3, hk3⟩)
        go_end0
        rw [HE.out, lineR, if_pos HOKV.out]
        exact ⟨rfl, hR3, HK2.out.trans hk3⟩
      · go_wp2_with fail
        go_end0
        have hq := HQ.out #[.int .i64 e0, .int .i64 (F : Nat), .int .i64 e2, .int .i64 e3]
        rw [HE.out, lineR, if_neg hno]
        exact ⟨rfl, hq.1.below hb2, hq.2.trans (KeepC.of hb2 (Nat.le_trans hB hq.2.size))⟩
    · have hbt13 : bits .and .i64 (F : Int) 8192 = 0 := flag_no F 13 hF (by decide) 8192 rfl hC
      have P0 := And.intro HI.out HKW.out
      have HL1 := Lib.hid (fun (o : Array Value) => (P0.1.below (balloc (brefl _) (.cells o 55))).len n HN.out)
      have HL2 := Lib.hid (fun (o : Array Value) => (P0.1.below (balloc (brefl _) (.cells o 55))).len n HN.out)
      have HQ := Lib.hid (fun (o : Array Value) => And.intro (P0.1.below (balloc (brefl _) (.cells o 55))) (P0.2.trans (KeepC.of (own := (ownR bk g5 g6)) (balloc (brefl _) (.cells o 55)) (Nat.le_trans hB P0.2.size))))
      clear P0 HI HKW
      go_enter Tryd.func33, Tryd.ntmps33
      go_wp2_with (first | (go_at_call 24; (with_reducible refine (HL1.out _).mono ?_); rintro e w_ ⟨rfl, rfl⟩) | (go_at_call 24; (with_reducible refine (HL2.out _).mono ?_); rintro e w_ ⟨rfl, rfl⟩))
      with_reducible refine (HO.out _ (hVB.out _ (HQ.out _).2) ((t : Int) - (f : Int)) (by omega) (by omega)).mono ?_
      have e1 : firstR (l, f, t) z F = f := by unfold firstR; rw [if_neg hA]
      have e2 : lastR (l, f, t) z F = t := by unfold lastR; rw [if_neg hC]
      have HE := Lib.hid (show actR (l, f, t) z F = (lineR l f t v, f, t) from by unfold actR; rw [e1, e2, ← HV16.out])
      clear e1 e2
      rintro e w2 (⟨hok, ov, rfl, hIo, hb2⟩ | ⟨hno, rfl, hb2⟩)
      · have hq := HQ.out #[.int .i64 e0, .int .i64 (F : Nat), .int .i64 e2, .int .i64 e3]
        have hR := hq.1.below hb2
        have hk2 := hq.2.trans (KeepC.of hb2 (Nat.le_trans hB hq.2.size))
        obtain ⟨vn, nn, hvn, hnn, g1, g2, g3'⟩ := okV_pre hok
        rw [Int.toNat_natCast, show ((t : Int) - (f : Int)).toNat = t - f by omega] at hIo
        have hol : (ordV v (t - f)).length = t - f := ordV_length _ _ (by omega) (by omega) (by rw [show v = vn by omega]; omega)
        obtain ⟨ao, co, rfl, _⟩ := hIo.slice
        rw [hol] at hIo
        have q3b := cell_of_heap hR.at3 0
        have q5b := cell_of_heap hR.at5 0
        simp only [List.getElem?_toArray, List.getElem?_cons_zero] at q3b q5b
        have HORD := Lib.hid (hR.ord (Nat.le_trans hB hk2.size) hBl hIo hol (by omega))
        have HK2 := Lib.hid hk2
        have HOKV := Lib.hid hok
        rw [hol]
        clear hq hR hk2 hIo hol hok hb2 hvn hnn g1 g2 g3' HQ HO hVB HL1 HL2
        go_wp2_with (go_at_call 34; (with_reducible refine HORD.out.mono ?_); rintro e w3 ⟨b, rfl, hR3, hk3⟩)
        go_end0
        rw [HE.out, lineR, if_pos HOKV.out]
        exact ⟨rfl, hR3, HK2.out.trans hk3⟩
      · go_wp2_with fail
        go_end0
        have hq := HQ.out #[.int .i64 e0, .int .i64 (F : Nat), .int .i64 e2, .int .i64 e3]
        rw [HE.out, lineR, if_neg hno]
        exact ⟨rfl, hq.1.below hb2, hq.2.trans (KeepC.of hb2 (Nat.le_trans hB hq.2.size))⟩
end Go.Proofs.YtlhnfpkenlenjaaDoor
end
section

/- A machine on its way along a line, as a function; drive's classAt at any place. Conditions: a machine and a line in memory; sizes. -/
namespace Go.Proofs.YtlhnfpkenlenjaaDoor
open Go.RowKit Go.Lib

/-- An entry: its next state, flags, and two words. -/
abbrev Ent := Nat × Nat × Nat × Nat
def entX (vb : List UInt8) (k j : Nat) : Ent := (num vb (j * (4 + 2 * k)) 2, num vb (j * (4 + 2 * k) + 2) 2, if 0 < k then num vb (j * (4 + 2 * k) + 4) 2 else 0, if 1 < k then num vb (j * (4 + 2 * k) + 6) 2 else 0)
def entV4 (e : Ent) : Value := .agg #[.int .i64 (e.1 : Nat), .int .i64 (e.2.1 : Nat), .int .i64 (e.2.2.1 : Nat), .int .i64 (e.2.2.2 : Nat)]
theorem entA_X (vb : List UInt8) (k j : Nat) : entA vb k j = entV4 (entX vb k j) := rfl
theorem entX_le (vb : List UInt8) (k j : Nat) : (entX vb k j).1 ≤ 65535 ∧ (entX vb k j).2.1 ≤ 65535 ∧ (entX vb k j).2.2.1 ≤ 65535 ∧ (entX vb k j).2.2.2 ≤ 65535 := by
  unfold entX
  refine ⟨num2_lt _ _, num2_lt _ _, ?_, ?_⟩
  · dsimp only; split
    · exact num2_lt _ _
    · omega
  · dsimp only; split
    · exact num2_lt _ _
    · omega
/-- The entry of a state and a class. -/
def enM (bs : List UInt8) (k s c : Nat) : Ent := entX (bs.drop (num bs 12 4)) k (entN bs (s * num bs 0 4 + c))
/-- The class of a line's place, or of its end. -/
def clD (bs : List UInt8) (rs : List RP) (l : List (Int × Int)) (z : Nat) : Nat := match l[z]? with
  | some p => classM bs rs p.1
  | none => 0
theorem classM_less (bs : List UInt8) (rs : List RP) (id : Int) (h : 4 ≤ num bs 0 4) : classM bs rs id < num bs 0 4 := by
  unfold classM
  split
  · omega
  · simp only
    split
    · rename_i h2; exact h2.2
    · omega
theorem clD_lt (bs : List UInt8) (rs : List RP) (l : List (Int × Int)) (z : Nat) (h : 4 ≤ num bs 0 4) : clD bs rs l z < num bs 0 4 := by
  unfold clD
  split
  · exact classM_less _ _ _ h
  · omega
theorem enM_next (bs : List UInt8) (k : Nat) {glyphs : Nat} {rs : List RP} {S s c : Nat} (hok : MOk bs glyphs k rs S) (hs : s < S) (hc : c < num bs 0 4) : (enM bs k s c).1 < S := by
  have h1 : entN bs (s * num bs 0 4 + c) < needE bs S := ent_in hs hc
  have h2 : nextN bs k (entN bs (s * num bs 0 4 + c)) < needS bs k (needE bs S) := needL_lt h1
  have h3 := hok.least.closed.2
  have h4 : (enM bs k s c).1 = nextN bs k (entN bs (s * num bs 0 4 + c)) := by
    unfold enM entX nextN
    rw [num_dropS]
  omega
/-- A machine goes along a line: what becomes of it, how many steps, and the error. -/
def runD {X : Type} (cl : X → Nat → Nat) (en : Nat → Nat → Ent) (fin : X → Nat → Bool) (act : X → Nat → Ent → X × Int × Int) : Nat → X → Nat → Nat → Nat → Nat → X × Nat × Nat
  | 0, x, _, _, _, st => (x, st - 1, 4)
  | fu + 1, x, now, z, re, st =>
    let e := en now (cl x z)
    let r := act x z e
    if e.2.1 / 2 ^ 14 % 2 = 1 then (if 64 < re + 1 then (r.1, st, 4) else runD cl en fin act fu r.1 e.1 (max r.2.1 0).toNat (re + 1) (st + 1))
    else if fin x z then (r.1, st, 0) else runD cl en fin act fu r.1 e.1 (max r.2.2 0).toNat 0 (st + 1)
/-- What holds of a line at first, and stays at each step, holds of what becomes of it. -/
theorem runD_keeps {X : Type} (P : X → Prop) {cl : X → Nat → Nat} {en : Nat → Nat → Ent} {fin : X → Nat → Bool} {act : X → Nat → Ent → X × Int × Int} (hs : ∀ x z e, P x → P (act x z e).1) : ∀ fu x now z re st, P x → P (runD cl en fin act fu x now z re st).1 := by
  intro fu
  induction fu with
  | zero => intro x now z re st h; exact h
  | succ fu ih =>
    intro x now z re st h
    unfold runD
    dsimp only
    split
    · split
      · exact hs _ _ _ h
      · exact ih _ _ _ _ _ (hs _ _ _ h)
    · split
      · exact hs _ _ _ h
      · exact ih _ _ _ _ _ (hs _ _ _ h)
set_option maxRecDepth 100000 in
set_option maxHeartbeats 1600000 in
theorem classAt_z (B g : Nat) (bs : List UInt8) (k : Nat) (rs : List RP) (S : Nat) (Bl gl : Nat) (a : Option Addr) (c : Nat) (l : List (Int × Int)) (z : Nat) (hz : z ≤ 1000000000) (w : World) (h : MIs B g bs k rs S w) (hf : FitL (tabR (bs.drop (num bs 4 4)) rs).1 (tabR (bs.drop (num bs 4 4)) rs).2) (hG : GIs Bl gl a c l w) (hid : ∀ p ∈ l, -9223372036854775808 ≤ p.1 ∧ p.1 ≤ 9223372036854775807) :
    Calls Tryd.prog 48 #[.pointer (some ⟨g, 0, none⟩), .pointer (some ⟨gl, 0, none⟩), .int .i64 (z : Nat)] w fun e w' => e = .returned (.tuple #[.int .i64 (clD bs rs l z : Nat), .bool (decide (z < l.length))]) ∧ Below w.heap.size w w' := by
  have hAC := allocC
  have hAF := allocF
  have HAt := Lib.hid (gat_any Bl gl a c l w hG (z : Nat))
  have HM := Lib.hid h
  have HF := Lib.hid hf
  cases hl : l[z]? with
  | none =>
    have hin : inG l (z : Nat) = false := by
      have := List.getElem?_eq_none_iff.1 hl
      unfold inG
      simp
      omega
    rw [show clD bs rs l z = 0 by rw [clD, hl], show decide (z < l.length) = false by have := List.getElem?_eq_none_iff.1 hl; simp; omega]
    rw [hin, show atG l (z : Nat) = (0, 0) by rw [atG, if_neg (by rw [hin]; decide)]] at HAt
    simp only [glyphA] at HAt
    clear hl hin h hG hid hf
    go_enter Tryd.func48, Tryd.ntmps48
    go_wp2_with (go_at_call 63; (with_reducible refine HAt.out.mono ?_); rintro e w1 ⟨rfl, hb1⟩)
    go_ret2
    exact ⟨rfl, blw⟩
  | some p =>
    have hin : inG l (z : Nat) = true := inG_of hl
    have hat : atG l (z : Nat) = p := atG_of hl
    have hp := hid p (List.mem_of_getElem? hl)
    rw [show clD bs rs l z = classM bs rs p.1 by rw [clD, hl], show decide (z < l.length) = true by have := (List.getElem?_eq_some_iff.1 hl).1; simp; omega]
    rw [hin, hat] at HAt
    obtain ⟨p1, p2⟩ := p
    simp only [glyphA] at HAt hp
    have HC := Lib.hid (fun W (hW : Below w.heap.size w W) => class_any B g bs k rs S p1 W (HM.out.below hW) HF.out hp)
    clear hl hin hat h hG hid hf hp
    generalize classM bs rs p1 = C at *
    go_enter Tryd.func48, Tryd.ntmps48
    go_wp2_with (first | (go_at_call 63; (with_reducible refine HAt.out.mono ?_); rintro e w1 ⟨rfl, hb1⟩; have h1c := bc hb1; have h1f := bf hb1; have h1z := hb1.size) | (go_at_call 64; (with_reducible refine (HC.out _ (by exact blw)).mono ?_); rintro e w2 ⟨rfl, hb2⟩))
    go_ret2
    exact ⟨rfl, blw⟩
end Go.Proofs.YtlhnfpkenlenjaaDoor
end
section

/- drive.Run, with an act made by Plain: a machine goes along a line, whatever the act does by its own contract. Conditions: a machine and a line in memory; the act keeps the machine, and what else is known; sizes. -/
namespace Go.Proofs.YtlhnfpkenlenjaaDoor
open Go.RowKit Go.Lib

theorem fn_nilA (fn : Fn) (first cap : Array Value) (w : World) : (binOp .eql 83 (.func fn first cap) .nilFunc).run Tryd.prog w = .ok (.bool false) w := by kernel_rfl
set_option maxRecDepth 100000 in
set_option maxHeartbeats 3200000 in
theorem drun_any {X : Type} (line : X → List (Int × Int)) (Inv : X → World → Prop) (act : X → Nat → Ent → X × Int × Int) (own : Nat → Nat → Prop) (K Bm g : Nat) (bs : List UInt8) (k glyphs : Nat) (rs : List RP) (S B Bl gl gx : Nat) (x0 : X) (w : World)
    (hM : MIs Bm g bs k rs S w) (hS : S ≤ 65536) (hok : MOk bs glyphs k rs S) (hg1 : 1 ≤ glyphs) (hfit : FitL (tabR (bs.drop (num bs 4 4)) rs).1 (tabR (bs.drop (num bs 4 4)) rs).2) (hown : notM own) (hB : B ≤ w.heap.size)
    (hI : Inv x0 w) (hIB : ∀ x W W', Inv x W → Below W.heap.size W W' → Inv x W') (hIL : ∀ x W, Inv x W → ∃ a c, GIs Bl gl a c (line x) W) (hIds : ∀ x W, Inv x W → ∀ p ∈ line x, -9223372036854775808 ≤ p.1 ∧ p.1 ≤ 9223372036854775807)
    (n : Nat) (hn : n = (line x0).length) (hn6 : n ≤ 1000000) (hK : K ≤ 100)
    (hbd : ∀ x z e, (act x z e).2.1 ≤ (z : Int) + K ∧ (act x z e).2.2 ≤ (z : Int) + K)
    (hact : ∀ x W z e, Inv x W → KeepC B own w W → z ≤ 900000000 → e.1 ≤ 65535 → e.2.1 ≤ 65535 → e.2.2.1 ≤ 65535 → e.2.2.2 ≤ 65535 → Calls Tryd.prog 50 #[.int .i64 (z : Nat), entV4 e, .pointer (some ⟨gx, 0, none⟩)] W fun r W' => r = .returned (.tuple #[.int .i64 (act x z e).2.1, .int .i64 (act x z e).2.2]) ∧ Inv (act x z e).1 W' ∧ KeepC B own W W') :
    Calls Tryd.prog 31 #[.pointer (some ⟨g, 0, none⟩), .pointer (some ⟨gl, 0, none⟩), .func (.func 50) #[] #[.pointer (some ⟨gx, 0, none⟩)]] w fun e w' =>
      e = .returned (.tuple #[.int .i64 ((runD (fun x z => clD bs rs (line x) z) (enM bs k) (fun x z => decide ((line x).length ≤ z)) act (2 * n + 128) x0 0 0 0 1).2.1 : Nat), .int .i64 ((runD (fun x z => clD bs rs (line x) z) (enM bs k) (fun x z => decide ((line x).length ≤ z)) act (2 * n + 128) x0 0 0 0 1).2.2 : Nat)]) ∧ Inv (runD (fun x z => clD bs rs (line x) z) (enM bs k) (fun x z => decide ((line x).length ≤ z)) act (2 * n + 128) x0 0 0 0 1).1 w' ∧ KeepC B own w w' := by
  have hAC := allocC
  have hAF := allocF
  have hN := fn_nilA
  obtain ⟨R, hR⟩ : ∃ R, R = runD (fun x z => clD bs rs (line x) z) (enM bs k) (fun x z => decide ((line x).length ≤ z)) act (2 * n + 128) x0 0 0 0 1 := ⟨_, rfl⟩
  rw [← hR]
  obtain ⟨a0, c0, hG0⟩ := hIL x0 w hI
  have hln := glen_any Bl gl a0 c0 (line x0) w hG0
  rw [← hn] at hln
  have HLN := Lib.hid hln
  have HM := Lib.hid hM
  have HCA := Lib.hid (fun W x z (hk : KeepC B own w W) (hx : Inv x W) (hz : z ≤ 1000000000) => by
    obtain ⟨a, c, hG⟩ := hIL x W hx
    exact classAt_z Bm g bs k rs S Bl gl a c (line x) z hz W (hM.keepO hk hown) hfit hG (hIds x W hx))
  have HST := Lib.hid (fun W (hk : KeepC B own w W) s c (hs : s < S) (hc : c < num bs 0 4) => step_yes Bm g bs k rs S s c W (hM.keepO hk hown) hS hs hc)
  have HACT := Lib.hid hact
  have HCL := Lib.hid (fun x z => clD_lt bs rs (line x) z hok.cls.1)
  have HNX := Lib.hid (fun s c (hs : s < S) (hc : c < num bs 0 4) => enM_next bs k hok hs hc)
  have HIB := Lib.hid hIB
  have HI := Lib.hid hI
  have HR := Lib.hid hR
  have HBD := Lib.hid hbd
  have HOWN := Lib.hid hown
  have hS2 : 0 < S := by have := hok.least.closed.1; omega
  have hK2 : K * (2 * n + 129) ≤ 100 * (2 * n + 129) := Nat.mul_le_mul_right _ hK
  clear hM hok hfit hown hI hIB hIL hIds hn hact hG0 hln hR hbd
  go_enter Tryd.func31, Tryd.ntmps31
  go_wp2_with (go_at_call 24; (with_reducible refine HLN.out.mono ?_); rintro e w_ ⟨rfl, rfl⟩)
  go_loopw [9, 10, 11, 12] (fun now at' rests steps wr => ∃ (fu : Nat) (x : X) (s z re st : Nat), now = .int .i64 (s : Nat) ∧ at' = .int .i64 (z : Nat) ∧ rests = .int .i64 (re : Nat) ∧ steps = .int .i64 (st : Nat) ∧ s < S ∧ z ≤ K * st ∧ re ≤ 64 ∧ st + fu = 2 * n + 129 ∧ Inv x wr ∧ KeepC B own w wr ∧ runD (fun x z => clD bs rs (line x) z) (enM bs k) (fun x z => decide ((line x).length ≤ z)) act fu x s z re st = R) (fun _ _ _ steps _ => 2 * n + 129 - (Go.RowKit.intOf steps).toNat)
  case atStart => exact ⟨2 * n + 128, x0, 0, 0, 0, 1, rfl, rfl, rfl, rfl, hS2, Nat.zero_le _, Nat.zero_le _, by omega, HI.out, KeepC.refl _ _ _, HR.out.symm⟩
  case round =>
    obtain ⟨fu, x, s, z, re, st, rfl, rfl, rfl, rfl, hs, hz, hre, hst, hx, hk, hrun⟩ := hrel
    rename World => wr
    have HX := Lib.hid hx
    have HK := Lib.hid hk
    have HRUN := Lib.hid hrun
    clear hx hk hrun
    by_cases hfu : fu = 0
    · have hst2 : st = 2 * n + 129 := by omega
      have d1 : decide ((st : Int) ≤ 2 * (n : Int) + 128) = false := by simp; omega
      have hrun := HRUN.out
      rw [hfu, runD] at hrun
      have HRUN := Lib.hid hrun
      clear hfu hrun
      go_wp2_with fail
      go_ret2
      rw [← HRUN.out]
      refine ⟨?_, HX.out, HK.out⟩
      show Ending.returned (.tuple #[.int .i64 (2 * (n : Int) + 128), .int .i64 4]) = Ending.returned (.tuple #[.int .i64 ((st - 1 : Nat) : Int), .int .i64 ((4 : Nat) : Int)])
      rw [show ((st - 1 : Nat) : Int) = 2 * (n : Int) + 128 by omega]
      rfl
    · obtain ⟨f, rfl⟩ : ∃ f, fu = f + 1 := ⟨fu - 1, by omega⟩
      have d1 : decide ((st : Int) ≤ 2 * (n : Int) + 128) = true := by simp; omega
      have hzb : z ≤ 900000000 := by
        have : K * st ≤ K * (2 * n + 129) := Nat.mul_le_mul_left _ (by omega)
        omega
      have hrun := HRUN.out
      have hBD := HBD.out x z (enM bs k s (clD bs rs (line x) z))
      have hC := HCL.out x z
      have hca := HCA.out wr x z HK.out HX.out (by omega)
      have hnx := HNX.out s (clD bs rs (line x) z) hs hC
      have hstp := fun W (hW : KeepC B own w W) => show Calls Tryd.prog 49 #[.pointer (some ⟨g, 0, none⟩), .int .i64 (s : Nat), .int .i64 (clD bs rs (line x) z : Nat)] W fun e w' => e = .returned (.tuple #[entV4 (enM bs k s (clD bs rs (line x) z)), .bool true]) ∧ Below W.heap.size W w' from HST.out W hW s (clD bs rs (line x) z) hs hC
      have hle : (enM bs k s (clD bs rs (line x) z)).1 ≤ 65535 ∧ (enM bs k s (clD bs rs (line x) z)).2.1 ≤ 65535 ∧ (enM bs k s (clD bs rs (line x) z)).2.2.1 ≤ 65535 ∧ (enM bs k s (clD bs rs (line x) z)).2.2.2 ≤ 65535 := entX_le _ _ _
      rw [runD] at hrun
      (try simp only at hrun)
      generalize he : enM bs k s (clD bs rs (line x) z) = E at *
      generalize clD bs rs (line x) z = C at *
      obtain ⟨e0, e1, e2, e3⟩ := E
      (try simp only at hle hnx hrun)
      have hac := fun W (hi : Inv x W) (hk : KeepC B own w W) => HACT.out x W z (e0, e1, e2, e3) hi hk hzb hle.1 hle.2.1 hle.2.2.1 hle.2.2.2
      generalize act x z (e0, e1, e2, e3) = r at hrun hac hBD
      obtain ⟨x1, y1, y2⟩ := r
      (try simp only at hrun hac hBD)
      simp only [entV4] at hac hstp
      obtain ⟨wi, hwi⟩ : ∃ wi, decide (z < (line x).length) = wi := ⟨_, rfl⟩
      rw [hwi] at hca
      have HWI := Lib.hid hwi
      have HC1 := Lib.hid hca
      have HS1 := Lib.hid hstp
      have HA1 := Lib.hid hac
      have hzs : z + K ≤ K * (st + 1) := by rw [Nat.mul_succ]; omega
      obtain ⟨p1, hp1⟩ : ∃ p : Nat, max y1 0 = p := ⟨(max y1 0).toNat, by omega⟩
      obtain ⟨p2, hp2⟩ : ∃ p : Nat, max y2 0 = p := ⟨(max y2 0).toNat, by omega⟩
      rw [hp1, hp2, Int.toNat_natCast, Int.toNat_natCast] at hrun
      have hq1 : p1 ≤ z + K := by omega
      have hq2 : p2 ≤ z + K := by omega
      have HRN := Lib.hid hrun
      have hle1 := hle.2.1
      have hBr := Nat.le_trans hB HK.out.size
      clear hwi he hca hstp hac hrun hle hBD hC HRUN
      by_cases hA : e1 / 2 ^ 14 % 2 = 1
      · have hbt : bits .and .i64 (e1 : Int) 16384 = 16384 := flag_yes e1 14 hle1 (by decide) 16384 rfl hA
        have hrn := HRN.out
        rw [if_pos hA] at hrn
        by_cases h64 : 64 < re + 1
        · have d2 : decide ((64 : Int) < (re : Int) + 1) = true := by simp; omega
          rw [if_pos h64] at hrn
          have HRN := Lib.hid hrn
          clear hrn hA
          go_wp2_with (first
            | (go_at_call 48; (with_reducible refine HC1.out.mono ?_); rintro e w1 ⟨rfl, hb1⟩; have HK1 := Lib.hid (HK.out.trans (KeepC.of (own := own) hb1 hBr)); have HX1 := Lib.hid (HIB.out _ _ _ HX.out hb1); clear hb1)
            | (go_at_call 49; (with_reducible refine (HS1.out _ HK1.out).mono ?_); rintro e w2 ⟨rfl, hb2⟩; have hBw := Nat.le_trans hB HK1.out.size; have hb2' : Below w1.heap.size w1 (w2.alloc (Obj.cells #[.int .i64 (e0 : Nat), .int .i64 (e1 : Nat), .int .i64 (e2 : Nat), .int .i64 (e3 : Nat)] 55)) := balloc hb2 _; have HK2 := Lib.hid (HK1.out.trans (KeepC.of (own := own) hb2' hBw)); have HX2 := Lib.hid (HIB.out _ _ _ HX1.out hb2'); clear hb2 hb2' hBw)
            | (go_at_call 50; (with_reducible refine (HA1.out _ HX2.out HK2.out).mono ?_); rintro e w3 ⟨rfl, hx3, hk3⟩; have h14 := (hk3.kept w2.heap.size _ _ _ (heap_push _ _ _ |>.trans (if_pos rfl)) (HOWN.out.2.2.1 _)).trans (heap_push _ _ _ |>.trans (if_pos rfl)); have q0 := cell_of_heap h14 0; have q1 := cell_of_heap h14 1; simp only [List.getElem?_toArray, List.getElem?_cons_succ, List.getElem?_cons_zero] at q0 q1; have HX3 := Lib.hid hx3; have HK3 := Lib.hid (HK2.out.trans hk3); clear hx3 hk3 h14))
          go_ret2
          rw [← HRN.out]
          exact ⟨rfl, HX3.out, HK3.out⟩
        · have d2 : decide ((64 : Int) < (re : Int) + 1) = false := by simp; omega
          rw [if_neg h64] at hrn
          have HRN := Lib.hid hrn
          clear hrn hA
          go_wp2_with (first
            | (go_at_call 48; (with_reducible refine HC1.out.mono ?_); rintro e w1 ⟨rfl, hb1⟩; have HK1 := Lib.hid (HK.out.trans (KeepC.of (own := own) hb1 hBr)); have HX1 := Lib.hid (HIB.out _ _ _ HX.out hb1); clear hb1)
            | (go_at_call 49; (with_reducible refine (HS1.out _ HK1.out).mono ?_); rintro e w2 ⟨rfl, hb2⟩; have hBw := Nat.le_trans hB HK1.out.size; have hb2' : Below w1.heap.size w1 (w2.alloc (Obj.cells #[.int .i64 (e0 : Nat), .int .i64 (e1 : Nat), .int .i64 (e2 : Nat), .int .i64 (e3 : Nat)] 55)) := balloc hb2 _; have HK2 := Lib.hid (HK1.out.trans (KeepC.of (own := own) hb2' hBw)); have HX2 := Lib.hid (HIB.out _ _ _ HX1.out hb2'); clear hb2 hb2' hBw)
            | (go_at_call 50; (with_reducible refine (HA1.out _ HX2.out HK2.out).mono ?_); rintro e w3 ⟨rfl, hx3, hk3⟩; have h14 := (hk3.kept w2.heap.size _ _ _ (heap_push _ _ _ |>.trans (if_pos rfl)) (HOWN.out.2.2.1 _)).trans (heap_push _ _ _ |>.trans (if_pos rfl)); have q0 := cell_of_heap h14 0; have q1 := cell_of_heap h14 1; simp only [List.getElem?_toArray, List.getElem?_cons_succ, List.getElem?_cons_zero] at q0 q1; have HX3 := Lib.hid hx3; have HK3 := Lib.hid (HK2.out.trans hk3); clear hx3 hk3 h14))
          go_roundw
          case rel => exact ⟨f, x1, e0, p1, re + 1, st + 1, rfl, by first | (congr 1; split <;> omega) | congr 1, by go_num, by go_num, hnx, by omega, by omega, by omega, HX3.out, HK3.out, HRN.out⟩
          case measure => simp only [RowKit.intOf]; omega
      · have hbt : bits .and .i64 (e1 : Int) 16384 = 0 := flag_no e1 14 hle1 (by decide) 16384 rfl hA
        have hrn := HRN.out
        rw [if_neg hA] at hrn
        by_cases hC0 : (line x).length ≤ z
        · obtain rfl : wi = false := by rw [← HWI.out]; simp; omega
          rw [if_pos (by simp; omega)] at hrn
          have HRN := Lib.hid hrn
          clear hrn hA hC0
          go_wp2_with (first
            | (go_at_call 48; (with_reducible refine HC1.out.mono ?_); rintro e w1 ⟨rfl, hb1⟩; have HK1 := Lib.hid (HK.out.trans (KeepC.of (own := own) hb1 hBr)); have HX1 := Lib.hid (HIB.out _ _ _ HX.out hb1); clear hb1)
            | (go_at_call 49; (with_reducible refine (HS1.out _ HK1.out).mono ?_); rintro e w2 ⟨rfl, hb2⟩; have hBw := Nat.le_trans hB HK1.out.size; have hb2' : Below w1.heap.size w1 (w2.alloc (Obj.cells #[.int .i64 (e0 : Nat), .int .i64 (e1 : Nat), .int .i64 (e2 : Nat), .int .i64 (e3 : Nat)] 55)) := balloc hb2 _; have HK2 := Lib.hid (HK1.out.trans (KeepC.of (own := own) hb2' hBw)); have HX2 := Lib.hid (HIB.out _ _ _ HX1.out hb2'); clear hb2 hb2' hBw)
            | (go_at_call 50; (with_reducible refine (HA1.out _ HX2.out HK2.out).mono ?_); rintro e w3 ⟨rfl, hx3, hk3⟩; have h14 := (hk3.kept w2.heap.size _ _ _ (heap_push _ _ _ |>.trans (if_pos rfl)) (HOWN.out.2.2.1 _)).trans (heap_push _ _ _ |>.trans (if_pos rfl)); have q0 := cell_of_heap h14 0; have q1 := cell_of_heap h14 1; simp only [List.getElem?_toArray, List.getElem?_cons_succ, List.getElem?_cons_zero] at q0 q1; have HX3 := Lib.hid hx3; have HK3 := Lib.hid (HK2.out.trans hk3); clear hx3 hk3 h14))
          go_ret2
          rw [← HRN.out]
          exact ⟨rfl, HX3.out, HK3.out⟩
        · obtain rfl : wi = true := by rw [← HWI.out]; simp; omega
          rw [if_neg (by simp; omega)] at hrn
          have HRN := Lib.hid hrn
          clear hrn hA hC0
          go_wp2_with (first
            | (go_at_call 48; (with_reducible refine HC1.out.mono ?_); rintro e w1 ⟨rfl, hb1⟩; have HK1 := Lib.hid (HK.out.trans (KeepC.of (own := own) hb1 hBr)); have HX1 := Lib.hid (HIB.out _ _ _ HX.out hb1); clear hb1)
            | (go_at_call 49; (with_reducible refine (HS1.out _ HK1.out).mono ?_); rintro e w2 ⟨rfl, hb2⟩; have hBw := Nat.le_trans hB HK1.out.size; have hb2' : Below w1.heap.size w1 (w2.alloc (Obj.cells #[.int .i64 (e0 : Nat), .int .i64 (e1 : Nat), .int .i64 (e2 : Nat), .int .i64 (e3 : Nat)] 55)) := balloc hb2 _; have HK2 := Lib.hid (HK1.out.trans (KeepC.of (own := own) hb2' hBw)); have HX2 := Lib.hid (HIB.out _ _ _ HX1.out hb2'); clear hb2 hb2' hBw)
            | (go_at_call 50; (with_reducible refine (HA1.out _ HX2.out HK2.out).mono ?_); rintro e w3 ⟨rfl, hx3, hk3⟩; have h14 := (hk3.kept w2.heap.size _ _ _ (heap_push _ _ _ |>.trans (if_pos rfl)) (HOWN.out.2.2.1 _)).trans (heap_push _ _ _ |>.trans (if_pos rfl)); have q0 := cell_of_heap h14 0; have q1 := cell_of_heap h14 1; simp only [List.getElem?_toArray, List.getElem?_cons_succ, List.getElem?_cons_zero] at q0 q1; have HX3 := Lib.hid hx3; have HK3 := Lib.hid (HK2.out.trans hk3); clear hx3 hk3 h14))
          go_roundw
          case rel => exact ⟨f, x1, e0, p2, 0, st + 1, rfl, by first | (congr 1; split <;> omega) | congr 1, rfl, by go_num, hnx, by omega, by omega, by omega, HX3.out, HK3.out, HRN.out⟩
          case measure => simp only [RowKit.intOf]; omega
end Go.Proofs.YtlhnfpkenlenjaaDoor
end
section

/- rear.Read, rear.Take, (*Table).Run: what a subtable that changes the order does to a line. Conditions: the table of verbs lies in memory; sizes. -/
namespace Go.Proofs.YtlhnfpkenlenjaaDoor
open Go.RowKit Go.Lib

theorem fn_nil79 (fn : Fn) (first cap : Array Value) (w : World) : (binOp .neq 86 (.func fn first cap) .nilFunc).run Tryd.prog w = .ok (.bool true) w := by kernel_rfl
set_option maxRecDepth 100000 in
set_option maxHeartbeats 1600000 in
theorem rplain_any {bk : Option Nat} (B gl g3 g5 g6 gx : Nat) (x : RX) (z : Nat) (e : Ent) (w : World) (h : RIn bk B gl g3 g5 g6 x w) (hX : w.heap[gx]? = some (.cells #[.func (.func 33) #[] #[.pointer (some ⟨g3, 0, none⟩), .pointer (some ⟨g5, 0, none⟩), .pointer (some ⟨g6, 0, none⟩)]] 86 (0, 0)))
    (hV : VerbsIn w) (hB : B ≤ w.heap.size) (hBl : B ≤ gl) (hB5 : B ≤ g5) (hB6 : B ≤ g6) (hG : 0 < B) (hz : z ≤ 900000000) (hF : e.2.1 ≤ 65535) :
    Calls Tryd.prog 50 #[.int .i64 (z : Nat), entV4 e, .pointer (some ⟨gx, 0, none⟩)] w fun r w' => r = .returned (.tuple #[.int .i64 (z : Nat), .int .i64 ((z : Int) + 1)]) ∧ RIn bk B gl g3 g5 g6 (actR x z e.2.1) w' ∧ KeepC B (ownR bk g5 g6) w w' := by
  have hAC := allocC
  have hAF := allocF
  have hN := fn_nil79
  obtain ⟨e0, F, e2, e3⟩ := e
  simp only [entV4] at hF ⊢
  have hxl := (Array.getElem?_eq_some_iff.1 hX).1
  have cx := cell_of_heap hX 0
  simp only [List.getElem?_toArray, List.getElem?_cons_zero] at cx
  have HD := Lib.hid (fun (o : Array Value) => rdo_any B gl g3 g5 g6 x z F (e0 : Nat) (e2 : Nat) (e3 : Nat) (w.alloc (.cells o 55)) (h.below (balloc (brefl w) _)) (hV.below (balloc (brefl w) _)) (by simp; omega) hBl hB5 hB6 hG (by omega) hF)
  have HK := Lib.hid (fun (o : Array Value) => KeepC.of (own := (ownR bk g5 g6)) (balloc (brefl w) (.cells o 55)) hB)
  clear h hX hV
  go_enter Tryd.func50, Tryd.ntmps50
  go_wp2_with (go_at_call 33; (with_reducible refine (HD.out _).mono ?_); rintro r w1 ⟨rfl, hr, hk⟩; have HR := Lib.hid hr; have HK1 := Lib.hid ((HK.out _).trans hk); clear hr hk)
  refine bodyPost_ret (v := .tuple #[.int .i64 (z : Nat), .int .i64 ((z : Int) + 1)]) (by simp [results, Tryd.results50, go_sem]) rfl ?_
  exact ⟨rfl, HR.out, HK1.out⟩
def IdsOk (l : List (Int × Int)) : Prop := ∀ p ∈ l, -9223372036854775808 ≤ p.1 ∧ p.1 ≤ 9223372036854775807
theorem ordG_ids {l : List (Int × Int)} (h : IdsOk l) (z : Int) (o : List Int) : IdsOk (ordG l z o) := by
  unfold ordG
  split
  · intro p hp
    unfold putO at hp
    rw [List.mem_append, List.mem_append] at hp
    rcases hp with hp | hp | hp
    · exact h p (List.mem_of_mem_take hp)
    · obtain ⟨y, _, rfl⟩ := List.mem_map.1 hp
      rw [List.getD_eq_getElem?_getD]
      cases hg : l[z.toNat + y.toNat]? with
      | none => exact ⟨by decide, by decide⟩
      | some q => exact h q (List.mem_of_getElem? hg)
    · exact h p (List.mem_of_mem_drop hp)
  · exact h
theorem lineR_ids {l : List (Int × Int)} (h : IdsOk l) (f t v : Nat) : IdsOk (lineR l f t v) := by
  unfold lineR
  split
  · exact ordG_ids h _ _
  · exact h
/-- An entry's doing, as a function. -/
def actRx (x : RX) (z : Nat) (e : Ent) : RX × Int × Int := (actR x z e.2.1, (z : Int), (z : Int) + 1)
/-- What a subtable does to a line. -/
def rearD (bs : List UInt8) (rs : List RP) (l : List (Int × Int)) : RX × Nat × Nat := runD (fun x z => clD bs rs x.1 z) (enM bs 0) (fun x z => decide (x.1.length ≤ z)) actRx (2 * l.length + 128) (l, 0, 0) 0 0 0 1
structure RSee (bk : Option Nat) (B gl g3 g5 g6 gx : Nat) (x : RX) (w : World) : Prop where
  inv : RIn bk B gl g3 g5 g6 x w
  fn : w.heap[gx]? = some (.cells #[.func (.func 33) #[] #[.pointer (some ⟨g3, 0, none⟩), .pointer (some ⟨g5, 0, none⟩), .pointer (some ⟨g6, 0, none⟩)]] 86 (0, 0))
  verbs : VerbsIn w
  ids : IdsOk x.1
theorem ownR_notM (bk : Option Nat) (g5 g6 : Nat) : notM (ownR bk g5 g6) := by
  refine ⟨fun k h => ?_, fun k h => ?_, fun k h => ?_, fun k h => ?_, fun k h => ?_, fun k h => ?_, fun k h => ?_⟩ <;> · rcases h with ⟨h, _⟩ | ⟨h, _⟩ <;> exact absurd h (by decide)
theorem plainf_any (fn : Fn) (first cap : Array Value) (w : World) :
    Calls Tryd.prog 32 #[.func fn first cap] w fun e w' => e = .returned (.func (.func 50) #[] #[.pointer (some ⟨w.heap.size, 0, none⟩)]) ∧ w' = w.alloc (.cells #[.func fn first cap] 86) := by
  go_enter Tryd.func32, Tryd.ntmps32
  go_wp2_with fail
  go_ret
  exact ⟨rfl, rfl⟩
theorem RSee.below {bk : Option Nat} {B gl g3 g5 g6 gx : Nat} {x : RX} {w w' : World} (h : RSee bk B gl g3 g5 g6 gx x w) (hb : Below w.heap.size w w') : RSee bk B gl g3 g5 g6 gx x w' :=
  ⟨h.inv.below hb, (hb.block gx (Array.getElem?_eq_some_iff.1 h.fn).1).trans h.fn, h.verbs.below hb, h.ids⟩
theorem RSee.act {bk : Option Nat} {B gl g3 g5 g6 gx : Nat} {x : RX} {w : World} (h : RSee bk B gl g3 g5 g6 gx x w) (hB : B ≤ w.heap.size) (hBl : B ≤ gl) (hB5 : B ≤ g5) (hB6 : B ≤ g6) (hG : 0 < B) (z : Nat) (hz : z ≤ 900000000) (e : Ent) (hF : e.2.1 ≤ 65535) :
    Calls Tryd.prog 50 #[.int .i64 (z : Nat), entV4 e, .pointer (some ⟨gx, 0, none⟩)] w fun r w' => r = .returned (.tuple #[.int .i64 (actRx x z e).2.1, .int .i64 (actRx x z e).2.2]) ∧ RSee bk B gl g3 g5 g6 gx (actRx x z e).1 w' ∧ KeepC B (ownR bk g5 g6) w w' := by
  refine (rplain_any B gl g3 g5 g6 gx x z e w h.inv h.fn h.verbs hB hBl hB5 hB6 hG hz hF).mono ?_
  rintro r w' ⟨rfl, h1, h2⟩
  exact ⟨rfl, ⟨h1, (h2.kept gx _ _ _ h.fn (fun h_ => by rcases h_ with ⟨h_, _⟩ | ⟨h_, _⟩ <;> exact absurd h_ (by decide))).trans h.fn, h.verbs.keepB h2.below hG, lineR_ids h.ids _ _ _⟩, h2⟩
set_option maxRecDepth 100000 in
set_option maxHeartbeats 3200000 in
theorem rrun_any (Bm g gt : Nat) (bs : List UInt8) (glyphs : Nat) (rs : List RP) (S B gl : Nat) (a : Option Addr) (c : Nat) (l : List (Int × Int)) (w : World)
    (hT : w.heap[gt]? = some (.cells #[.pointer (some ⟨g, 0, none⟩)] 72 (0, 0))) (hM : MIs Bm g bs 0 rs S w) (hS : S ≤ 65536) (hok : MOk bs glyphs 0 rs S) (hg1 : 1 ≤ glyphs) (hfit : FitL (tabR (bs.drop (num bs 4 4)) rs).1 (tabR (bs.drop (num bs 4 4)) rs).2)
    (hG : GIs B gl a c l w) (hV : VerbsIn w) (hB : B ≤ w.heap.size) (hBl : B ≤ gl) (hVB : 0 < B) (hids : IdsOk l) (hl : l.length ≤ 1000000) :
    Calls Tryd.prog 14 #[.pointer (some ⟨gt, 0, none⟩), .pointer (some ⟨gl, 0, none⟩)] w fun e w' => e = .returned (.int .i64 ((rearD bs rs l).2.2 : Nat)) ∧ (∃ a' c', GIs B gl a' c' (rearD bs rs l).1.1 w' ∧ a'.map (·.block) = a.map (·.block)) ∧ KeepC B (ownR (a.map (·.block)) (w.heap.size + 1) (w.heap.size + 1 + 1)) w w' := by
  have hAC := allocC
  have hAF := allocF
  go_enter Tryd.func14, Tryd.ntmps14
  go_wp2_with fail
  obtain ⟨W, hW⟩ : ∃ W, W = ((w.alloc (Obj.cells #[.pointer (some ⟨gl, 0, none⟩)] 42)).alloc (Obj.cells #[.int .i64 0] 3)).alloc (Obj.cells #[.int .i64 0] 3) := ⟨_, rfl⟩
  have hbW : Below w.heap.size w W := by rw [hW]; exact balloc (balloc (balloc (brefl w) _) _) _
  have hzW : W.heap.size = w.heap.size + 1 + 1 + 1 := by rw [hW]; simp
  have h3 : W.heap[w.heap.size]? = some (.cells #[.pointer (some ⟨gl, 0, none⟩)] 42 (0, 0)) := by
    rw [hW, heap_push, if_neg (by simp only [World.size_alloc]; omega), heap_push, if_neg (by simp only [World.size_alloc]; omega), heap_push, if_pos rfl]
  have h5 : W.heap[w.heap.size + 1]? = some (.cells #[.int .i64 ((0 : Nat) : Int)] 3 (0, 0)) := by
    rw [hW, heap_push, if_neg (by simp only [World.size_alloc]; omega), heap_push, if_pos (by simp only [World.size_alloc])]
    rfl
  have h6 : W.heap[w.heap.size + 1 + 1]? = some (.cells #[.int .i64 ((0 : Nat) : Int)] 3 (0, 0)) := by
    rw [hW, heap_push, if_pos (by simp only [World.size_alloc])]
    rfl
  have hI : RIn (a.map (·.block)) B gl w.heap.size (w.heap.size + 1) (w.heap.size + 1 + 1) (l, 0, 0) W := ⟨⟨a, c, hG.below hbW, rfl⟩, h3, h5, h6, by omega, hl, Nat.zero_le _, Nat.zero_le _⟩
  have ht := (hbW.block gt (Array.getElem?_eq_some_iff.1 hT).1).trans hT
  rw [← hW]
  have hsee : RSee (a.map (·.block)) B gl w.heap.size (w.heap.size + 1) (w.heap.size + 1 + 1) W.heap.size (l, 0, 0) (W.alloc (.cells #[.func (.func 33) #[] #[.pointer (some ⟨w.heap.size, 0, none⟩), .pointer (some ⟨w.heap.size + 1, 0, none⟩), .pointer (some ⟨w.heap.size + 1 + 1, 0, none⟩)]] 86)).drew :=
    ⟨hI.below (bdrew1 (balloc (brefl W) _)), by show (W.alloc _).heap[W.heap.size]? = _; rw [heap_push]; exact if_pos rfl, (hV.below hbW).below (bdrew1 (balloc (brefl W) _)), hids⟩
  have hbX : Below w.heap.size w (W.alloc (.cells #[.func (.func 33) #[] #[.pointer (some ⟨w.heap.size, 0, none⟩), .pointer (some ⟨w.heap.size + 1, 0, none⟩), .pointer (some ⟨w.heap.size + 1 + 1, 0, none⟩)]] 86)).drew := hbW.trans ((bdrew1 (balloc (brefl W) _)).mono hbW.size)
  have hrun := drun_any (X := RX) (fun x => x.1) (RSee (a.map (·.block)) B gl w.heap.size (w.heap.size + 1) (w.heap.size + 1 + 1) W.heap.size) actRx (ownR (a.map (·.block)) (w.heap.size + 1) (w.heap.size + 1 + 1)) 1 Bm g bs 0 glyphs rs S B B gl W.heap.size (l, 0, 0) _ (hM.below hbX) hS hok hg1 hfit (ownR_notM _ _ _) (Nat.le_trans hB hbX.size) hsee (fun x V V' h hb => h.below hb) (fun x V h => by obtain ⟨a', c', hg, _⟩ := h.inv.line; exact ⟨a', c', hg⟩) (fun x V h => h.ids) l.length rfl hl (by omega) (fun x z e => ⟨by simp [actRx]; omega, by simp [actRx]⟩)
    (fun x V z e h hk hz _ hF _ _ => h.act (Nat.le_trans (Nat.le_trans hB hbX.size) hk.size) hBl (by omega) (by omega) hVB z (by omega) e hF)
  change Calls _ _ _ _ (fun e w' => e = .returned (.tuple #[.int .i64 ((rearD bs rs l).2.1 : Nat), .int .i64 ((rearD bs rs l).2.2 : Nat)]) ∧ RSee (a.map (·.block)) B gl w.heap.size (w.heap.size + 1) (w.heap.size + 1 + 1) W.heap.size (rearD bs rs l).1 w' ∧ KeepC B (ownR (a.map (·.block)) (w.heap.size + 1) (w.heap.size + 1 + 1)) _ w') at hrun
  obtain ⟨R, hR⟩ : ∃ R, R = rearD bs rs l := ⟨_, rfl⟩
  rw [← hR] at hrun
  have HR := Lib.hid hR
  clear hR
  have HRUN := Lib.hid hrun
  have HKX := Lib.hid (KeepC.of (own := (ownR (a.map (·.block)) (w.heap.size + 1) (w.heap.size + 1 + 1))) hbX hB)
  have HBW := Lib.hid hbW
  have hzW' : w.heap.size + 1 + 1 < W.heap.size := by omega
  clear hzW hW hI h5 h6 hsee hbX hrun hM hok hfit hG hV hids hT
  refine wp_region_tree (.step 0 (.step 1 (.step 2 (.step 3 (.step 4 (.step 5 (.step 6 (.step 7 (.step 8 (.step 9 (.step 10 (.step 11 (.step 12 .nil))))))))))))) (by kernel_rfl) (by kernel_rfl) (by kernel_rfl) (by kernel_rfl) (by intro _ _ d_ _ _ h_; cases d_ <;> first | exact h_ | (dsimp +zetaDelta only at h_ ⊢; exact h_)) (fun w' => ∃ p : KepP (ownG) W, w' = p.val) (kepP_start _ _) ?_
  have hK0_ := fun (p : KepP (ownG) W) (o : Nat) => p.is.cell ht (by first | (intro h_; exact absurd h_.1 (by decide)) | (intro h_; exact h_.2 rfl) | (intro h_; rcases h_ with h_ | h_ | h_ <;> exact absurd h_ (by decide)) | (intro h_; rcases h_ with h_ | h_ <;> exact absurd h_ (by decide))) o
  have hK1_ := fun (p : KepP (ownG) W) (o : Nat) => p.is.cell h3 (by first | (intro h_; exact absurd h_.1 (by decide)) | (intro h_; exact h_.2 rfl) | (intro h_; rcases h_ with h_ | h_ | h_ <;> exact absurd h_ (by decide)) | (intro h_; rcases h_ with h_ | h_ <;> exact absurd h_ (by decide))) o
  (refine tree_quiet (by simp only [List.getElem?_toArray, List.getElem?_cons_succ, List.getElem?_cons_zero]; rfl) (by rfl) (by rfl) (fun K_ hK_ => ?_); go_big_quiet_op; refine hK_ _ ?_; clear hK_ K_)
  (refine tree_quiet (by simp only [List.getElem?_toArray, List.getElem?_cons_succ, List.getElem?_cons_zero]; rfl) (by rfl) (by rfl) (fun K_ hK_ => ?_); go_big_quiet_op; refine hK_ _ ?_; clear hK_ K_)
  (refine tree_quiet (by simp only [List.getElem?_toArray, List.getElem?_cons_succ, List.getElem?_cons_zero]; rfl) (by rfl) (by rfl) (fun K_ hK_ => ?_); go_big_quiet_op; refine hK_ _ ?_; clear hK_ K_)
  (refine tree_quiet (by simp only [List.getElem?_toArray, List.getElem?_cons_succ, List.getElem?_cons_zero]; rfl) (by rfl) (by rfl) (fun K_ hK_ => ?_); go_big_quiet_op; refine hK_ _ ?_; clear hK_ K_)
  (refine tree_quiet (by simp only [List.getElem?_toArray, List.getElem?_cons_succ, List.getElem?_cons_zero]; rfl) (by rfl) (by rfl) (fun K_ hK_ => ?_); go_big_quiet_op; refine hK_ _ ?_; clear hK_ K_)
  (refine tree_quiet (by simp only [List.getElem?_toArray, List.getElem?_cons_succ, List.getElem?_cons_zero]; rfl) (by rfl) (by rfl) (fun K_ hK_ => ?_); go_big_quiet_op; refine hK_ _ ?_; clear hK_ K_)
  (refine tree_run (by simp only [List.getElem?_toArray, List.getElem?_cons_succ, List.getElem?_cons_zero]; rfl) (by rfl) (by rfl) (fun K_ hK_ => ?_); have HK_ := Lib.hid hK_; clear hK_; go_wp2_with (first | (go_at_call 32; (with_reducible refine (plainf_any _ _ _ _).mono ?_); rintro e w5 ⟨rfl, rfl⟩; have hko4 : KeptO ownG W (W.drew.alloc (.cells #[.func (.func 33) #[] #[.pointer (some ⟨w.heap.size, 0, none⟩), .pointer (some ⟨w.heap.size + 1, 0, none⟩), .pointer (some ⟨w.heap.size + 1 + 1, 0, none⟩)]] 86)) := KeptO.below (balloc (bdrew1 (brefl W)) _); have hko5 : KeptO ownG W (W.alloc (.cells #[.func (.func 33) #[] #[.pointer (some ⟨w.heap.size, 0, none⟩), .pointer (some ⟨w.heap.size + 1, 0, none⟩), .pointer (some ⟨w.heap.size + 1 + 1, 0, none⟩)]] 86)).drew := KeptO.below (bdrew1 (balloc (brefl W) _))) | (go_at_call 31; (with_reducible refine HRUN.out.mono ?_); rintro e w7 ⟨rfl, hx7, hk7⟩; have HX7 := Lib.hid hx7; have HK7 := Lib.hid (HKX.out.trans hk7); have hko7 : KeptO ownG W w7 := hko5.trans ⟨hk7.size, fun k cs t fz hk ho => hk7.kept k cs t fz hk (fun h => ho h.g)⟩; clear hx7 hk7)); refine HK_.out _ _ (kepP_ofA) ?_; clear HK_)
  (refine tree_run (by simp only [List.getElem?_toArray, List.getElem?_cons_succ, List.getElem?_cons_zero]; rfl) (by rfl) (by rfl) (fun K_ hK_ => ?_); have HK_ := Lib.hid hK_; clear hK_; go_wp2_with (first | (go_at_call 32; (with_reducible refine (plainf_any _ _ _ _).mono ?_); rintro e w5 ⟨rfl, rfl⟩; have hko4 : KeptO ownG W (W.drew.alloc (.cells #[.func (.func 33) #[] #[.pointer (some ⟨w.heap.size, 0, none⟩), .pointer (some ⟨w.heap.size + 1, 0, none⟩), .pointer (some ⟨w.heap.size + 1 + 1, 0, none⟩)]] 86)) := KeptO.below (balloc (bdrew1 (brefl W)) _); have hko5 : KeptO ownG W (W.alloc (.cells #[.func (.func 33) #[] #[.pointer (some ⟨w.heap.size, 0, none⟩), .pointer (some ⟨w.heap.size + 1, 0, none⟩), .pointer (some ⟨w.heap.size + 1 + 1, 0, none⟩)]] 86)).drew := KeptO.below (bdrew1 (balloc (brefl W) _))) | (go_at_call 31; (with_reducible refine HRUN.out.mono ?_); rintro e w7 ⟨rfl, hx7, hk7⟩; have HX7 := Lib.hid hx7; have HK7 := Lib.hid (HKX.out.trans hk7); have hko7 : KeptO ownG W w7 := hko5.trans ⟨hk7.size, fun k cs t fz hk ho => hk7.kept k cs t fz hk (fun h => ho h.g)⟩; clear hx7 hk7)); refine HK_.out _ _ (kepP_ofA) ?_; clear HK_)
  (refine tree_quiet (by simp only [List.getElem?_toArray, List.getElem?_cons_succ, List.getElem?_cons_zero]; rfl) (by rfl) (by rfl) (fun K_ hK_ => ?_); go_big_quiet_op; refine hK_ _ ?_; clear hK_ K_)
  (refine tree_quiet (by simp only [List.getElem?_toArray, List.getElem?_cons_succ, List.getElem?_cons_zero]; rfl) (by rfl) (by rfl) (fun K_ hK_ => ?_); go_big_quiet_op; refine hK_ _ ?_; clear hK_ K_)
  (refine tree_quiet (by simp only [List.getElem?_toArray, List.getElem?_cons_succ, List.getElem?_cons_zero]; rfl) (by rfl) (by rfl) (fun K_ hK_ => ?_); go_big_quiet_op; refine hK_ _ ?_; clear hK_ K_)
  (refine tree_quiet (by simp only [List.getElem?_toArray, List.getElem?_cons_succ, List.getElem?_cons_zero]; rfl) (by rfl) (by rfl) (fun K_ hK_ => ?_); go_big_quiet_op; refine hK_ _ ?_; clear hK_ K_)
  (refine tree_quiet (by simp only [List.getElem?_toArray, List.getElem?_cons_succ, List.getElem?_cons_zero]; rfl) (by rfl) (by rfl) (fun K_ hK_ => ?_); go_big_quiet_op; refine hK_ _ ?_; clear hK_ K_)
  refine tree_nil ?_
  clear hK0_ hK1_
  go_wp2_with fail
  go_ret
  rw [← HR.out]
  exact ⟨rfl, HX7.out.inv.line, HK7.out⟩
/-- A subtable in memory. -/
structure TIs (B gt : Nat) (bs : List UInt8) (rs : List RP) (S : Nat) (w : World) : Prop where
  is : ∃ g, w.heap[gt]? = some (.cells #[.pointer (some ⟨g, 0, none⟩)] 72 (0, 0)) ∧ MIs B g bs 0 rs S w
  ge : B ≤ gt
theorem TIs.below {B gt : Nat} {bs : List UInt8} {rs : List RP} {S : Nat} {w w' : World} (h : TIs B gt bs rs S w) (hb : Below w.heap.size w w') : TIs B gt bs rs S w' := by
  obtain ⟨⟨g, h1, h2⟩, h3⟩ := h
  exact ⟨⟨g, (hb.block gt (Array.getElem?_eq_some_iff.1 h1).1).trans h1, h2.below hb⟩, h3⟩
set_option maxRecDepth 100000 in
set_option maxHeartbeats 1600000 in
theorem rread_some (a : Option Addr) (n c : Nat) (bs : List UInt8) (glyphs : Nat) (zg : Int) (hzg : zg = (glyphs : Nat)) (rs : List RP) (S : Nat) (w : World) (h : Has w a (bytesV bs)) (hl : bs.length = n) (hn : n ≤ c) (hc : c ≤ maxLen) (hg1 : 1 ≤ glyphs) (hg2 : glyphs ≤ 65535) (hok : MOk bs glyphs 0 rs S) :
    Calls Tryd.prog 11 #[.slice a n c, .int .i64 zg] w fun e w' => ∃ gt, e = .returned (.tuple #[.pointer (some ⟨gt, 0, none⟩), .int .i64 0]) ∧ TIs w.heap.size gt bs rs S w' ∧ Below w.heap.size w w' := by
  subst hzg
  have hAC := allocC
  have hAF := allocF
  have HRD := Lib.hid (mread_some a n c bs glyphs 0 (glyphs : Nat) 0 rfl rfl rs S w h hl hn hc hg1 hg2 (by omega) hok)
  clear h hl hok hAC hAF
  go_enter Tryd.func11, Tryd.ntmps11
  go_wp2_with (go_at_call 26; (with_reducible refine HRD.out.mono ?_); rintro e w1 ⟨g, rfl, hM, hb1⟩; have HM := Lib.hid hM; clear hM)
  go_ret2
  exact ⟨_, rfl, ⟨⟨g, by rw [heap_push]; exact if_pos rfl, HM.out.below (balloc (brefl _) _)⟩, hb1.size⟩, balloc hb1 _⟩
set_option maxRecDepth 100000 in
theorem rread_none (a : Option Addr) (n c : Nat) (bs : List UInt8) (glyphs : Nat) (zg : Int) (hzg : zg = (glyphs : Nat)) (w : World) (h : Has w a (bytesV bs)) (hl : bs.length = n) (hn : n ≤ c) (hc : c ≤ maxLen) (hg1 : 1 ≤ glyphs) (hg2 : glyphs ≤ 65535) (hno : ∀ rs S, ¬ MOk bs glyphs 0 rs S) :
    Calls Tryd.prog 11 #[.slice a n c, .int .i64 zg] w fun e w' => e = .returned (.tuple #[.pointer none, .int .i64 2]) ∧ Below w.heap.size w w' := by
  have HRD := Lib.hid (mread_none a n c bs glyphs 0 (glyphs : Nat) 0 rfl rfl w h hl hn hc hg1 hg2 (by omega) hno)
  clear h hl hno
  go_enter Tryd.func11, Tryd.ntmps11
  go_wp2_with (go_at_call 26; (with_reducible refine HRD.out.mono ?_); rintro e w1 ⟨rfl, hb1⟩)
  go_ret2
  exact ⟨rfl, hb1⟩
end Go.Proofs.YtlhnfpkenlenjaaDoor
end
section

/- A change of the order keeps all glyphs, each once; so does a machine of such changes. No walk. -/
namespace Go.Proofs.YtlhnfpkenlenjaaDoor
open Go.RowKit Go.Lib

/-- Where a place of the changed line comes from. -/
def srcO (f : Nat) (o : List Int) (i : Nat) : Nat := if i < f then i else if i < f + o.length then f + (o.getD (i - f) 0).toNat else i
theorem putO_get (l : List (Int × Int)) (f : Nat) (o : List Int) (ho : IsOrd o) (hf : f + o.length ≤ l.length) (i : Nat) (hi : i < l.length) : (putO l f o o.length)[i]? = l[srcO f o i]? ∧ srcO f o i < l.length := by
  unfold putO srcO
  rw [List.take_length]
  have e1 : (l.take f).length = f := by rw [List.length_take]; omega
  have e2 : (pickG l f o).length = o.length := by rw [pickG, List.length_map]
  by_cases h1 : i < f
  · rw [if_pos h1, List.getElem?_append_left (by omega), List.getElem?_take, if_pos h1]
    exact ⟨rfl, hi⟩
  rw [if_neg h1, List.getElem?_append_right (by omega), e1]
  by_cases h2 : i < f + o.length
  · rw [if_pos h2, List.getElem?_append_left (by omega)]
    have hl : i - f < o.length := by omega
    have hg : o[i - f]? = some o[i - f] := List.getElem?_eq_getElem hl
    have hm := ho.1 _ (List.getElem_mem hl)
    have hd : o.getD (i - f) 0 = o[i - f] := by rw [List.getD_eq_getElem?_getD, hg]; rfl
    rw [pickG, List.getElem?_map, hg, hd]
    have hlt : f + o[i - f].toNat < l.length := by omega
    refine ⟨?_, hlt⟩
    simp only [Option.map_some]
    rw [List.getD_eq_getElem?_getD, List.getElem?_eq_getElem hlt]
    rfl
  · rw [if_neg h2, List.getElem?_append_right (by omega), e2, List.getElem?_drop]
    refine ⟨?_, hi⟩
    congr 1
    omega
theorem srcO_inj (f : Nat) (o : List Int) (ho : IsOrd o) (i j : Nat) (h : srcO f o i = srcO f o j) : i = j := by
  have key : ∀ i, f ≤ i → i < f + o.length → ∃ z : Int, o[i - f]? = some z ∧ 0 ≤ z ∧ z < (o.length : Int) ∧ srcO f o i = f + z.toNat := by
    intro i h1 h2
    have hl : i - f < o.length := by omega
    have hm := ho.1 _ (List.getElem_mem hl)
    refine ⟨o[i - f], List.getElem?_eq_getElem hl, hm.1, hm.2, ?_⟩
    unfold srcO
    rw [if_neg (by omega), if_pos h2, List.getD_eq_getElem?_getD, List.getElem?_eq_getElem hl]
    rfl
  have out : ∀ i, ¬ (f ≤ i ∧ i < f + o.length) → srcO f o i = i := by
    intro i h1
    unfold srcO
    by_cases h2 : i < f
    · rw [if_pos h2]
    · rw [if_neg h2, if_neg (by omega)]
  by_cases hi : f ≤ i ∧ i < f + o.length
  · obtain ⟨z, z1, z2, z3, z4⟩ := key i hi.1 hi.2
    by_cases hj : f ≤ j ∧ j < f + o.length
    · obtain ⟨y, y1, y2, y3, y4⟩ := key j hj.1 hj.2
      have hzy : z = y := by omega
      subst hzy
      have := (List.getElem?_inj (i := i - f) (j := j - f) (by have := (List.getElem?_eq_some_iff.1 z1).1; omega) ho.2).1 (z1.trans y1.symm)
      omega
    · have := out j hj
      omega
  · have h1 := out i hi
    by_cases hj : f ≤ j ∧ j < f + o.length
    · obtain ⟨y, y1, y2, y3, y4⟩ := key j hj.1 hj.2
      omega
    · have := out j hj
      omega
/-- Each glyph is one of the first ones, with its cluster, and stands once. -/
structure Keeps (ids : List Int) (l : List (Int × Int)) : Prop where
  len : l.length = ids.length
  each : ∀ (i : Nat) p, l[i]? = some p → ∃ c : Nat, p.2 = (c : Int) ∧ ids[c]? = some p.1
  once : ∀ (i j : Nat) p q, l[i]? = some p → l[j]? = some q → p.2 = q.2 → i = j
theorem Keeps.new (ids : List Int) : Keeps ids (newG ids) := by
  refine ⟨newG_length ids, fun i p h => ?_, fun i j p q hp hq h => ?_⟩
  · rw [newG_get, Option.map_eq_some_iff] at h
    obtain ⟨z, hz, rfl⟩ := h
    exact ⟨i, rfl, hz⟩
  · rw [newG_get, Option.map_eq_some_iff] at hp hq
    obtain ⟨z, hz, rfl⟩ := hp
    obtain ⟨y, hy, rfl⟩ := hq
    simp only at h
    omega
theorem Keeps.ord {ids : List Int} {l : List (Int × Int)} (h : Keeps ids l) (z : Int) (o : List Int) : Keeps ids (ordG l z o) := by
  unfold ordG
  by_cases hok : okO l z o = true
  · rw [if_pos hok]
    unfold okO at hok
    simp only [Bool.and_eq_true, decide_eq_true_eq] at hok
    obtain ⟨⟨h1, h2⟩, h3⟩ := hok
    have hf : z.toNat + o.length ≤ l.length := by omega
    have hlen := putO_length l z.toNat o o.length (Nat.le_refl _) hf
    have hget := fun i hi => putO_get l z.toNat o h3 hf i hi
    refine ⟨hlen.trans h.len, fun i p hp => ?_, fun i j p q hp hq e => ?_⟩
    · have hi : i < l.length := by rw [← hlen]; exact (List.getElem?_eq_some_iff.1 hp).1
      rw [(hget i hi).1] at hp
      exact h.each _ _ hp
    · have hi : i < l.length := by rw [← hlen]; exact (List.getElem?_eq_some_iff.1 hp).1
      have hj : j < l.length := by rw [← hlen]; exact (List.getElem?_eq_some_iff.1 hq).1
      rw [(hget i hi).1] at hp
      rw [(hget j hj).1] at hq
      exact srcO_inj _ _ h3 _ _ (h.once _ _ _ _ hp hq e)
  · rw [if_neg hok]
    exact h
theorem Keeps.line {ids : List Int} {l : List (Int × Int)} (h : Keeps ids l) (f t v : Nat) : Keeps ids (lineR l f t v) := by
  unfold lineR
  split
  · exact h.ord _ _
  · exact h
/-- A subtable keeps all glyphs. -/
theorem rearD_keeps (bs : List UInt8) (rs : List RP) (ids : List Int) : Keeps ids (rearD bs rs (newG ids)).1.1 :=
  runD_keeps (fun x : RX => Keeps ids x.1) (fun x z e h => h.line _ _ _) _ _ _ _ _ _ (Keeps.new ids)
/-- Without verbs, or without a row, the line stays as it is. -/
theorem lineR_idle0 (l : List (Int × Int)) (f t : Nat) : lineR l f t 0 = l := by
  unfold lineR
  rw [if_neg]
  rintro ⟨h, _⟩
  exact absurd h (by decide)
theorem ends_one : ∀ v, v < 16 → 1 ≤ v → 1 ≤ (preV v).length + (sufV v).length := by decide
theorem lineR_idle1 (l : List (Int × Int)) (f v : Nat) : lineR l f 0 v = l := by
  unfold lineR
  rw [if_neg]
  rintro ⟨h1, h2, h3⟩
  have := ends_one v (by omega) (by omega)
  rw [Int.toNat_natCast] at h3
  omega
end Go.Proofs.YtlhnfpkenlenjaaDoor
end
section

/- What law 14 asks of a subtable first: two glyphs change places; and how much it looks at. Condition: the table of verbs lies in memory. -/
namespace Go.Proofs.YtlhnfpkenlenjaaDoor
open Go.RowKit Go.Lib

def planR2 : PlanL := ⟨[4, 5], [[0, 0, 0, 0, 1, 2], [0, 0, 0, 0, 1, 2]], [(0, 0, 0, 0), (0, 32768, 0, 0), (0, 8193, 0, 0)], 2⟩
def bytesR2 : List UInt8 := [0, 0, 0, 6, 0, 0, 0, 16, 0, 0, 0, 26, 0, 0, 0, 50, 0, 8, 0, 0, 0, 2, 0, 4, 0, 5, 0, 0, 0, 0, 0, 0, 0, 0, 0, 1, 0, 2, 0, 0, 0, 0, 0, 0, 0, 0, 0, 1, 0, 2, 0, 0, 0, 0, 0, 0, 128, 0, 0, 0, 32, 1]
theorem planR2_bytes : planB planR2 0 0 = bytesR2 := by decide
def rsR2 : List RP := rowsT 0 2 6 2
theorem okR2 : MOk bytesR2 9 0 rsR2 2 := by
  refine ⟨by decide, by decide, by decide, ?_, by decide, by decide, ⟨by unfold MClosed; decide, fun S' h => h.1⟩, by decide, by decide⟩
  refine ⟨.eight (by decide) (by decide) (by decide), ?_⟩
  exact (ok_rowsT _ _ _ _ _ (by decide)).2 (by decide)
theorem fitR2 : FitL (tabR (bytesR2.drop (num bytesR2 4 4)) rsR2).1 (tabR (bytesR2.drop (num bytesR2 4 4)) rsR2).2 := okR2.lk.fit (by decide) (by decide)
theorem runR2 : (rearD bytesR2 rsR2 [(0, 0), (1, 1)]).1.1 = [(1, 1), (0, 0)] ∧ (rearD bytesR2 rsR2 [(0, 0), (1, 1)]).2.2 = 0 := by
  constructor <;> decide +kernel
theorem writeR2 (aC aR aE : Option Addr) (rv : List Value) (cC cR cE : Nat) (w : World) (h : PlanHas w planR2 aC aR rv aE) :
    Calls Tryd.prog 10 #[.agg #[.slice aC 2 cC, .slice aR 2 cR, .slice aE 3 cE, .int .u8 2], .int .i64 0, .int .i64 0] w fun e w' => ∃ a' c', e = .returned (.slice a' 62 c') ∧ w'.ownsRow w.heap.size 5 1 (.slice a' 62 c') 62 (bytesV bytesR2) ∧ 62 ≤ c' ∧ c' ≤ maxLen ∧ Below w.heap.size w w' := by
  have := write_any planR2 0 0 0 0 rfl rfl aC aR aE rv cC cR cE w h (by decide) (by decide) (by decide) (by decide) (by decide) (by
    intro e he
    simp only [planR2, List.mem_cons, List.not_mem_nil, or_false] at he
    rcases he with rfl | rfl | rfl <;> · unfold wfI; decide)
  rw [planR2_bytes] at this
  refine this.mono ?_
  rintro e w' ⟨a', c', h1, h2, h3, h4, _, h6⟩
  exact ⟨a', c', h1, h2, h3, h4, h6⟩
theorem runR2_any (B gt gl : Nat) (a : Option Addr) (c : Nat) (w : World) {Bm : Nat} (hT : TIs Bm gt bytesR2 rsR2 2 w) (hG : GIs B gl a c [(0, 0), (1, 1)] w) (hV : VerbsIn w) (hB : B ≤ w.heap.size) (hBl : B ≤ gl) (hVB : 0 < B) :
    Calls Tryd.prog 14 #[.pointer (some ⟨gt, 0, none⟩), .pointer (some ⟨gl, 0, none⟩)] w fun e w' => e = .returned (.int .i64 0) ∧ (∃ a' c', GIs B gl a' c' [(1, 1), (0, 0)] w') ∧ Below B w w' := by
  obtain ⟨⟨g, h1, h2⟩, _⟩ := hT
  refine (rrun_any Bm g gt bytesR2 9 rsR2 2 B gl a c [(0, 0), (1, 1)] w h1 h2 (by decide) okR2 (by decide) fitR2 hG hV hB hBl hVB (by unfold IdsOk; decide) (by decide)).mono ?_
  rintro e w' ⟨rfl, ⟨a', c', hg, _⟩, hk⟩
  rw [runR2.1] at hg
  rw [runR2.2]
  exact ⟨rfl, ⟨a', c', hg⟩, hk.below⟩
set_option maxRecDepth 100000 in
set_option maxHeartbeats 6400000 in
theorem speaks14_any (w : World) (hV : VerbsIn w) : Calls Tryd.prog 8 #[] w fun e w' => e = .returned (.bool true) ∧ Below w.heap.size w w' := by
  have hAC := allocC
  have hAF := allocF
  have HV := Lib.hid hV
  clear hV
  go_enter Tryd.func8, Tryd.ntmps8
  go_wp2_with fail
  obtain ⟨w1, h1⟩ : ∃ w1, w1 = w.alloc (Obj.cells #[.int .u8 4, .int .u8 5] 5) := ⟨_, rfl⟩
  obtain ⟨w2, h2⟩ : ∃ w2, w2 = w1.alloc (Obj.cells #[.int .u8 0, .int .u8 0, .int .u8 0, .int .u8 0, .int .u8 1, .int .u8 2] 5) := ⟨_, rfl⟩
  obtain ⟨w3, h3⟩ : ∃ w3, w3 = w2.alloc (Obj.cells #[.int .u8 0, .int .u8 0, .int .u8 0, .int .u8 0, .int .u8 1, .int .u8 2] 5) := ⟨_, rfl⟩
  obtain ⟨w4, h4⟩ : ∃ w4, w4 = w3.alloc (Obj.cells #[.slice (some ⟨w1.heap.size, 0, none⟩) 6 6, .slice (some ⟨w2.heap.size, 0, none⟩) 6 6] 22) := ⟨_, rfl⟩
  obtain ⟨w5, h5⟩ : ∃ w5, w5 = w4.alloc (Obj.cells #[.int .i64 0, .int .i64 0, .int .i64 0, .int .i64 0, .int .i64 0, .int .i64 32768, .int .i64 0, .int .i64 0, .int .i64 0, .int .i64 8193, .int .i64 0, .int .i64 0] 55) := ⟨_, rfl⟩
  have z1 : w1.heap.size = w.heap.size + 1 := by rw [h1]; simp
  have z2 : w2.heap.size = w1.heap.size + 1 := by rw [h2]; simp
  have z3 : w3.heap.size = w2.heap.size + 1 := by rw [h3]; simp
  have z4 : w4.heap.size = w3.heap.size + 1 := by rw [h4]; simp
  have b1 : Below w.heap.size w w1 := by rw [h1]; exact balloc (brefl w) _
  have b2 : Below w1.heap.size w1 w2 := by rw [h2]; exact balloc (brefl w1) _
  have b3 : Below w2.heap.size w2 w3 := by rw [h3]; exact balloc (brefl w2) _
  have b4 : Below w3.heap.size w3 w4 := by rw [h4]; exact balloc (brefl w3) _
  have b5 : Below w4.heap.size w4 w5 := by rw [h5]; exact balloc (brefl w4) _
  have b25 : Below w2.heap.size w2 w5 := b3.trans ((b4.trans (b5.mono b4.size)).mono b3.size)
  have b15 : Below w1.heap.size w1 w5 := b2.trans (b25.mono b2.size)
  have b35 : Below w3.heap.size w3 w5 := b4.trans (b5.mono b4.size)
  have HP := Lib.hid (show PlanHas w5 planR2 (some ⟨w.heap.size, 0, none⟩) (some ⟨w3.heap.size, 0, none⟩) [.slice (some ⟨w1.heap.size, 0, none⟩) 6 6, .slice (some ⟨w2.heap.size, 0, none⟩) 6 6] (some ⟨w4.heap.size, 0, none⟩) from ⟨by
      have := has_alloc w #[.int .u8 4, .int .u8 5] 5
      rw [← h1] at this
      exact this.below b15, by
      have := has_alloc w3 #[.slice (some ⟨w1.heap.size, 0, none⟩) 6 6, .slice (some ⟨w2.heap.size, 0, none⟩) 6 6] 22
      rw [← h4] at this
      exact this.below b5, rfl, by
      have g2 := has_alloc w1 #[.int .u8 0, .int .u8 0, .int .u8 0, .int .u8 0, .int .u8 1, .int .u8 2] 5
      have g3 := has_alloc w2 #[.int .u8 0, .int .u8 0, .int .u8 0, .int .u8 0, .int .u8 1, .int .u8 2] 5
      rw [← h2] at g2
      rw [← h3] at g3
      intro i r hr
      match i, hr with
      | 0, hr => simp [planR2] at hr; subst hr; exact ⟨_, 6, rfl, g2.below b25⟩
      | 1, hr => simp [planR2] at hr; subst hr; exact ⟨_, 6, rfl, g3.below b35⟩
      | n + 2, hr => simp [planR2] at hr, by
      have := has_alloc w4 #[.int .i64 0, .int .i64 0, .int .i64 0, .int .i64 0, .int .i64 0, .int .i64 32768, .int .i64 0, .int .i64 0, .int .i64 0, .int .i64 8193, .int .i64 0, .int .i64 0] 55
      rw [← h5] at this
      exact this⟩)
  have HB5 := Lib.hid (show Below w.heap.size w w5 from b1.trans (b15.mono b1.size))
  rw [← h1, ← h2, ← h3, ← z1, ← z2, ← z3, ← h4, ← z4, ← h5]
  clear h1 h2 h3 h4 h5 b1 b2 b3 b4 b5 b25 b15 b35 z1 z2 z3
  have HW := Lib.hid (fun W hW => writeR2 (some ⟨w.heap.size, 0, none⟩) (some ⟨w3.heap.size, 0, none⟩) (some ⟨w4.heap.size, 0, none⟩) [.slice (some ⟨w1.heap.size, 0, none⟩) 6 6, .slice (some ⟨w2.heap.size, 0, none⟩) 6 6] 2 2 3 W (HP.out.below hW))
  have e01 : newG [0, 1] = [(0, 0), (1, 1)] := by rfl
  go_wp2_with (first
    | (go_at_call 10; (with_reducible refine (HW.out _ (by exact blw)).mono ?_); rintro e w6 ⟨a6, c6, rfl, ho6, k6, k66, hb6⟩; have HH6 := Lib.hid (has_of_owns ho6); have HB6 := Lib.hid (show Below w.heap.size w w6 from by have h5 := HB5.out; have h5z := h5.size; exact blw); clear ho6)
    | (go_at_call 11; (with_reducible refine (rread_some a6 62 c6 bytesR2 9 9 rfl rsR2 2 w6 HH6.out rfl k6 k66 (by decide) (by decide) okR2).mono ?_); rintro e w7 ⟨gt, rfl, hT, hb7⟩; have HT := Lib.hid hT; have HB7 := Lib.hid (HB6.out.trans (hb7.mono HB6.out.size)); clear hT)
    | (go_at_call 13; (with_reducible refine (gnew_any (some ⟨w7.heap.size, 0, none⟩) 2 2 [0, 1] (w7.alloc (.cells #[.int .i64 0, .int .i64 1] 3)) (has_alloc w7 _ _) rfl (by decide)).mono ?_); rintro e w8 ⟨gl, a8, c8, rfl, hG, hgl, hb8⟩; rw [e01] at hG; have hb78 := (balloc (brefl w7) (.cells #[.int .i64 0, .int .i64 1] 3)).trans (hb8.mono (by simp)); have HT8 := Lib.hid (HT.out.below hb78); have HB8 := Lib.hid (HB7.out.trans (hb78.mono HB7.out.size)); have hgl8 : w.heap.size ≤ gl := (by have := HB7.out.size; simp only [World.size_alloc] at hgl; omega); have HG8 := Lib.hid (hG.mono (show w.heap.size ≤ _ from by have := HB7.out.size; simp only [World.size_alloc]; omega)); have HX := Lib.hid (show Calls Tryd.prog 14 #[.pointer (some ⟨gt, 0, none⟩), .pointer (some ⟨gl, 0, none⟩)] w8 fun e w' => e = .returned (.int .i64 0) ∧ (∃ a' c', GIs w.heap.size gl a' c' [(1, 1), (0, 0)] w') ∧ Below w.heap.size w8 w' from runR2_any w.heap.size gt gl a8 c8 w8 HT8.out HG8.out (HV.out.below HB8.out) HB8.out.size hgl8 HV.out.lt); have hz8 := hb8.size; clear hG hb8 hb78 hgl)
    | (go_at_call 14; (with_reducible refine HX.out.mono ?_); rintro e w9 ⟨rfl, ⟨a9, c9, hG⟩, hb9⟩; have HG9 := Lib.hid hG; have HB9 := Lib.hid (HB8.out.trans hb9); clear hG hb9)
    | (go_at_call 18; (with_reducible refine (gglyphs_any w.heap.size gl a9 c9 _ w9 HG9.out (by decide)).mono ?_); rintro e w10 ⟨a10, c10, rfl, ho, _, _, _, hb10⟩; have HH10 := Lib.hid (has_of_owns ho); have HB10 := Lib.hid (HB9.out.trans (hb10.mono HB9.out.size)); clear ho hb10)
    | (go_at_call 17; (refine (refSameG_any a10 (some ⟨w10.heap.size, 0, none⟩) 2 c10 2 2 [(1, 1), (0, 0)] [(1, 1), (0, 0)] (w10.alloc (.cells #[.int .i64 1, .int .i64 1, .int .i64 0, .int .i64 0] 53)) (HH10.out.below (balloc (brefl w10) _)) rfl (has_alloc w10 #[.int .i64 1, .int .i64 1, .int .i64 0, .int .i64 0] 53) rfl (by decide) (by decide)).mono ?_); rintro e w11 ⟨rfl, hb11⟩; rw [decide_eq_true rfl]; have HB11 := Lib.hid (HB10.out.trans ((balloc (brefl w10) (.cells #[.int .i64 1, .int .i64 1, .int .i64 0, .int .i64 0] 53)).trans (hb11.mono (by simp)) |>.mono HB10.out.size)); clear hb11))
  go_ret
  exact ⟨rfl, HB11.out⟩
theorem small14_yes (aC aR aE aI : Option Addr) (nC nR nE nI cC cR cE cI : Nat) (y : Int) (w : World) (h : nC ≤ 40 ∧ nR ≤ 20 ∧ nE ≤ 40 ∧ nI ≤ 60) :
    Calls Tryd.prog 9 #[.agg #[.slice aC nC cC, .slice aR nR cR, .slice aE nE cE, .int .u8 y], .slice aI nI cI] w fun e w' => e = .returned (.bool true) ∧ Below w.heap.size w w' := by
  have d1 : decide ((nC : Int) ≤ 40) = true := by simp; omega
  have d2 : decide ((nR : Int) ≤ 20) = true := by simp; omega
  have d3 : decide ((nE : Int) ≤ 40) = true := by simp; omega
  have d4 : decide ((nI : Int) ≤ 60) = true := by simp; omega
  clear h
  go_enter Tryd.func9, Tryd.ntmps9
  go_wp2_with fail
  go_ret
  exact ⟨rfl, blw⟩
theorem small14_no (aC aR aE aI : Option Addr) (nC nR nE nI cC cR cE cI : Nat) (y : Int) (w : World) (h : ¬ (nC ≤ 40 ∧ nR ≤ 20 ∧ nE ≤ 40 ∧ nI ≤ 60)) :
    Calls Tryd.prog 9 #[.agg #[.slice aC nC cC, .slice aR nR cR, .slice aE nE cE, .int .u8 y], .slice aI nI cI] w fun e w' => e = .returned (.bool false) ∧ Below w.heap.size w w' := by
  by_cases h1 : nC ≤ 40
  case neg =>
    have d1 : decide ((nC : Int) ≤ 40) = false := by simp; omega
    clear h h1
    go_enter Tryd.func9, Tryd.ntmps9
    go_wp2_with fail
    go_ret
    exact ⟨rfl, blw⟩
  have d1 : decide ((nC : Int) ≤ 40) = true := by simp; omega
  by_cases h2 : nR ≤ 20
  case neg =>
    have d2 : decide ((nR : Int) ≤ 20) = false := by simp; omega
    clear h h1 h2
    go_enter Tryd.func9, Tryd.ntmps9
    go_wp2_with fail
    go_ret
    exact ⟨rfl, blw⟩
  have d2 : decide ((nR : Int) ≤ 20) = true := by simp; omega
  by_cases h3 : nE ≤ 40
  case neg =>
    have d3 : decide ((nE : Int) ≤ 40) = false := by simp; omega
    clear h h1 h2 h3
    go_enter Tryd.func9, Tryd.ntmps9
    go_wp2_with fail
    go_ret
    exact ⟨rfl, blw⟩
  have d3 : decide ((nE : Int) ≤ 40) = true := by simp; omega
  have d4 : decide ((nI : Int) ≤ 60) = false := by simp; omega
  clear h h1 h2 h3
  go_enter Tryd.func9, Tryd.ntmps9
  go_wp2_with fail
  go_ret
  exact ⟨rfl, blw⟩
theorem newG_ids {ids : List Int} (h : ∀ z ∈ ids, -9223372036854775808 ≤ z ∧ z ≤ 9223372036854775807) : IdsOk (newG ids) := by
  intro p hp
  obtain ⟨i, hi⟩ := List.getElem?_of_mem hp
  rw [newG_get, Option.map_eq_some_iff] at hi
  obtain ⟨z, hz, rfl⟩ := hi
  exact h z (List.mem_of_getElem? hz)
/-- A subtable of bytes, and a line as it was made: what Run does. -/
theorem rrun_new (B gt gl : Nat) (bs : List UInt8) (rs : List RP) (S : Nat) (a : Option Addr) (c : Nat) (ids : List Int) (w : World) {Bm : Nat} (hT : TIs Bm gt bs rs S w) (hok : MOk bs 40 0 rs S) (hn : bs.length ≤ 2000) (hG : GIs B gl a c (newG ids) w) (hV : VerbsIn w) (hB : B ≤ w.heap.size) (hBl : B ≤ gl) (hVB : 0 < B) (hids : ∀ z ∈ ids, -9223372036854775808 ≤ z ∧ z ≤ 9223372036854775807) (hl : ids.length ≤ 1000000) :
    Calls Tryd.prog 14 #[.pointer (some ⟨gt, 0, none⟩), .pointer (some ⟨gl, 0, none⟩)] w fun e w' => e = .returned (.int .i64 ((rearD bs rs (newG ids)).2.2 : Nat)) ∧ (∃ a' c', GIs B gl a' c' (rearD bs rs (newG ids)).1.1 w' ∧ a'.map (·.block) = a.map (·.block)) ∧ KeepC B (ownR (a.map (·.block)) (w.heap.size + 1) (w.heap.size + 1 + 1)) w w' := by
  obtain ⟨⟨g, h1, h2⟩, _⟩ := hT
  exact rrun_any Bm g gt bs 40 rs S B gl a c (newG ids) w h1 h2 (Nat.le_trans (hok.s6 hn) (by decide)) hok (by decide) (hok.lk.fit (by decide) (.inl rfl)) hG hV hB hBl hVB (newG_ids hids) (by rw [newG_length]; exact hl)
end Go.Proofs.YtlhnfpkenlenjaaDoor
end
