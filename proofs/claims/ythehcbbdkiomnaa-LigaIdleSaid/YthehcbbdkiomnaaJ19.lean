/- Joined from: JAct JNeed. -/
import Derived.Test.YthehcbbdkiomnaaJ01
import Derived.Test.YthehcbbdkiomnaaJ18
import Derived.Test.YthehcbbdkiomnaaJ02
section

/- liga: bits of actions; numbers of actions, components and ligatures. Conditions: bytes in memory, as many as the slice says. -/
namespace Go.Proofs.Ythehcbbdkiomnaa
open Go.RowKit Go.Lib

theorem bits_and6 (v m : Nat) (hv : v < 9223372036854775808) (hm : m < 9223372036854775808) : bits .and .i64 (v : Int) (m : Int) = ((v &&& m : Nat) : Int) := by
  have e : (BitVec.ofInt 64 (v : Int)).toNat = v := by rw [BitVec.toNat_ofInt]; omega
  have e2 : (BitVec.ofInt 64 (m : Int)).toNat = m := by rw [BitVec.toNat_ofInt]; omega
  have h : v &&& m ≤ v := Nat.and_le_left
  simp only [bits, BitVec.toNat_and]
  show IntKind.wrap .i64 (((BitVec.ofInt 64 (v : Int)).toNat &&& (BitVec.ofInt 64 (m : Int)).toNat : Nat) : Int) = _
  rw [e, e2, IntKind.wrap_i64]
  omega
theorem last_yes (x : Nat) (hx : x < 4294967296) (h : 2147483648 ≤ x) : bits .and .i64 (x : Int) 2147483648 = 2147483648 := by
  rw [show (2147483648 : Int) = ((2 ^ 31 : Nat) : Int) from rfl, bits_and6 _ _ (by omega) (by decide), nat_and_pow, if_pos (by omega)]
theorem last_no (x : Nat) (hx : x < 4294967296) (h : ¬ 2147483648 ≤ x) : bits .and .i64 (x : Int) 2147483648 = 0 := by
  rw [show (2147483648 : Int) = ((2 ^ 31 : Nat) : Int) from rfl, bits_and6 _ _ (by omega) (by decide), nat_and_pow, if_neg (by omega)]
  rfl
theorem two_bits (x : Nat) : x &&& 3221225472 = (if x / 2 ^ 31 % 2 = 1 then 2 ^ 31 else 0) ||| (if x / 2 ^ 30 % 2 = 1 then 2 ^ 30 else 0) := by
  have e : (3221225472 : Nat) = 2 ^ 31 ||| 2 ^ 30 := by decide
  rw [e, Nat.and_or_distrib_left, nat_and_pow, nat_and_pow]
theorem both_yes (x : Nat) (hx : x < 4294967296) (h : 2147483648 ≤ x ∨ x / 1073741824 % 2 = 1) : (bits .and .i64 (x : Int) 3221225472 != 0) = true := by
  rw [show (3221225472 : Int) = ((3221225472 : Nat) : Int) from rfl, bits_and6 _ _ (by omega) (by decide), two_bits]
  by_cases h1 : x / 2 ^ 31 % 2 = 1
  · rw [if_pos h1]
    split <;> decide
  · rw [if_neg h1, if_pos (by omega)]
    decide
theorem both_no (x : Nat) (hx : x < 4294967296) (h : ¬ (2147483648 ≤ x ∨ x / 1073741824 % 2 = 1)) : (bits .and .i64 (x : Int) 3221225472 != 0) = false := by
  rw [show (3221225472 : Int) = ((3221225472 : Nat) : Int) from rfl, bits_and6 _ _ (by omega) (by decide), two_bits, if_neg (by omega), if_neg (by omega)]
  decide
theorem off_bits (x : Nat) (hx : x < 4294967296) : bits .and .i64 (x : Int) 536870911 - bits .and .i64 (x : Int) 536870912 = offA x := by
  rw [show (536870911 : Int) = ((536870911 : Nat) : Int) from rfl, bits_and6 _ _ (by omega) (by decide), show (536870912 : Int) = ((2 ^ 29 : Nat) : Int) from rfl, bits_and6 _ _ (by omega) (by decide), nat_and_pow, show (536870911 : Nat) = 2 ^ 29 - 1 from rfl, Nat.and_two_pow_sub_one_eq_mod]
  unfold offA
  by_cases h : x / 2 ^ 29 % 2 = 1
  · rw [if_pos h, if_pos (by omega)]
    omega
  · rw [if_neg h, if_neg (by omega)]
    omega

theorem BHas.keep {L B : Nat} {own : Nat → Nat → Prop} {a : Option Addr} {bs : List UInt8} {w w' : World} (h : BHas L a bs w) (hk : KeepC B own w w') (hL : L ≤ B) (ho : ∀ k, ¬ own k 5) : BHas L a bs w' := by
  have hx : ∀ p, a = some p → p.block < w.heap.size → w'.heap[p.block]? = w.heap[p.block]? := by
    intro p hp hlt
    rcases h.far p hp with h1 | ⟨cs, fz, h1⟩
    · exact hk.below.block _ (by omega)
    · exact hk.kept _ _ _ _ h1 (ho _)
  refine ⟨fun j u hu => ?_, fun p hp => ?_⟩
  · obtain ⟨p, hp, hc⟩ := h.has j u hu
    refine ⟨p, hp, ?_⟩
    have e : w'.heap[(p.add j).block]? = w.heap[(p.add j).block]? := by
      rw [add_block]
      exact hx p hp (by rw [← add_block p j]; exact cell_lt hc)
    rw [World.cell?_of_block e]
    exact hc
  · rcases h.far p hp with h1 | ⟨cs, fz, h1⟩
    · exact .inl h1
    · exact .inr ⟨cs, fz, (hk.kept _ _ _ _ h1 (ho _)).trans h1⟩
theorem BHas.of_owns {L B n c : Nat} {a : Option Addr} {bs : List UInt8} {w : World} (h : w.ownsRow B 5 1 (.slice a n c) n (bytesV bs)) : BHas L a bs w := by
  refine ⟨has_of_owns h, fun p hp => ?_⟩
  rcases h.2 with ⟨hv, _⟩ | ⟨b, cap, cur, hv, _, hh, _⟩
  · injection hv with hv _ _
    rw [hv] at hp
    cases hp
  · injection hv with hv _ _
    rw [hv] at hp
    cases hp
    exact .inr ⟨_, _, hh⟩
theorem BHas.setOther {L g3 o : Nat} {t : TypeId} {a : Option Addr} {bs : List UInt8} {w : World} {cs : Array Value} {fz : Nat × Nat} (h : BHas L a bs w) (hw : w.heap[g3]? = some (.cells cs t fz)) (hL : L ≤ g3) (ht : t ≠ 5) (v : Value) : BHas L a bs (w.setCell ⟨g3, o, none⟩ v) := by
  have hne : ∀ p, a = some p → p.block ≠ g3 := by
    intro p hp he
    rcases h.far p hp with h1 | ⟨cs, fz, h1⟩
    · omega
    · rw [he, hw] at h1
      injection h1 with h1
      injection h1 with _ h2 _
      exact ht h2
  refine ⟨fun j u hu => ?_, fun p hp => ?_⟩
  · obtain ⟨p, hp, hc⟩ := h.has j u hu
    refine ⟨p, hp, ?_⟩
    have e : (w.setCell ⟨g3, o, none⟩ v).heap[(p.add j).block]? = w.heap[(p.add j).block]? := by
      rw [add_block]
      exact set_heap_other _ (hne p hp)
    rw [World.cell?_of_block e]
    exact hc
  · rcases h.far p hp with h1 | ⟨cs, fz, h1⟩
    · exact .inl h1
    · exact .inr ⟨cs, fz, (set_heap_other _ (hne p hp)).trans h1⟩

set_option maxRecDepth 100000 in
set_option maxHeartbeats 400000 in
theorem number_any (x : Nat) (hx : x < 4294967296) (w : World) : Calls Try.prog 80 #[.int .i64 (x : Nat)] w fun e w' => e = .returned (.int .i64 (offA x)) ∧ Below w.heap.size w w' := by
  have ho := off_bits x hx
  have h1 := offA_le x
  have hw : wrap64 (bits .and .i64 (x : Int) 536870911 - bits .and .i64 (x : Int) 536870912) = offA x := by rw [ho]; exact IntWalk.wrap64_in _ (by omega)
  clear ho h1 hx
  go_enter Try.func80, Try.ntmps80
  go_wp2_with fail
  go_ret
  exact ⟨by rw [← hw]; rfl, blw⟩
set_option maxRecDepth 100000 in
set_option maxHeartbeats 1600000 in
/-- The number at a place of a list. -/
theorem numberAt_any (a : Option Addr) (n c : Nat) (bs : List UInt8) (z : Int) (w : World) (h : Has w a (bytesV bs)) (hl : bs.length = n) (hn : n ≤ c) (hc : c ≤ maxLen) (hz : -9223372036854775808 ≤ z ∧ z ≤ 9223372036854775807) :
    Calls Try.prog 79 #[.agg #[.slice a n c], .int .i64 z] w fun e w' => e = .returned (.tuple #[.int .i64 (max (atN bs z) 0), .bool (decide (0 ≤ atN bs z))]) ∧ Below w.heap.size w w' := by
  have HH := Lib.hid h
  have HL := Lib.hid hl
  have hm : n ≤ 9223372036854775807 := by unfold maxLen at hc; omega
  have HLEN := Lib.hid (fun W => len_any a n c W)
  have hq : wrap64 ((n : Int) / 2) = ((n / 2 : Nat) : Int) := by have := quo_in n 2 (by omega); simpa using this
  clear h hl
  by_cases h1 : z < 0
  · have hat : atN bs z = -1 := by unfold atN; rw [if_neg (by omega)]
    have HAT := Lib.hid hat
    clear hat
    go_enter Try.func79, Try.ntmps79
    go_wp2_with (first | (go_at_call 55; (with_reducible refine (HLEN.out _).mono ?_); rintro e w1 ⟨rfl, hb1⟩; have h1c := bc hb1; have h1f := bf hb1; have h1z := hb1.size; try simp only [World.size_alloc, World.size_drew] at h1z))
    go_ret2
    rw [HAT.out]
    exact ⟨rfl, blw⟩
  obtain ⟨k, rfl⟩ : ∃ k : Nat, z = k := ⟨z.toNat, by omega⟩
  by_cases h2 : n / 2 ≤ k
  · have hat : atN bs (k : Nat) = -1 := by unfold atN; rw [if_neg (by rw [HL.out]; omega)]
    have HAT := Lib.hid hat
    have d1 : decide (((n / 2 : Nat) : Int) ≤ (k : Int)) = true := by simp; omega
    clear hat
    go_enter Try.func79, Try.ntmps79
    go_wp2_with (first | (go_at_call 55; (with_reducible refine (HLEN.out _).mono ?_); rintro e w1 ⟨rfl, hb1⟩; have h1c := bc hb1; have h1f := bf hb1; have h1z := hb1.size; try simp only [World.size_alloc, World.size_drew] at h1z))
    go_ret2
    rw [HAT.out]
    exact ⟨rfl, blw⟩
  · have hk2 : 2 * k + 2 ≤ n := by omega
    have hat : atN bs (k : Nat) = (num bs (2 * k) 2 : Nat) := by unfold atN; rw [if_pos (by rw [HL.out]; omega), Int.toNat_natCast]
    have HAT := Lib.hid hat
    have d1 : decide (((n / 2 : Nat) : Int) ≤ (k : Int)) = false := by simp; omega
    have HU := Lib.hid (fun W (hW : Below w.heap.size w W) (z : Int) (hz : z = ((2 * k : Nat) : Int)) => u16_z a n c (2 * k) z hz bs W (HH.out.below hW) HL.out (by omega) hn hc)
    clear hat h1
    go_enter Try.func79, Try.ntmps79
    go_wp2_with (first | (go_at_call 55; (with_reducible refine (HLEN.out _).mono ?_); rintro e w1 ⟨rfl, hb1⟩; have h1c := bc hb1; have h1f := bf hb1; have h1z := hb1.size; try simp only [World.size_alloc, World.size_drew] at h1z) | (go_at_call 61; (with_reducible refine (HU.out _ (by exact blw) _ (by go_num)).mono ?_); rintro e w2 ⟨rfl, hb2⟩; have h2c := bc hb2; have h2f := bf hb2; have h2z := hb2.size; try simp only [World.size_alloc, World.size_drew] at h2z))
    go_ret2
    rw [HAT.out]
    exact ⟨by rw [show max ((num bs (2 * k) 2 : Nat) : Int) 0 = ((num bs (2 * k) 2 : Nat) : Int) by omega, show decide ((0 : Int) ≤ ((num bs (2 * k) 2 : Nat) : Int)) = true by simp]; rfl, blw⟩
set_option maxRecDepth 100000 in
set_option maxHeartbeats 1600000 in
/-- The action of a number. -/
theorem action_ok (gt : Nat) (v0 v2 v3 : Value) (fz : Nat × Nat) (a : Option Addr) (n c : Nat) (ac : List UInt8) (k : Nat) (z : Int) (hz : z = (k : Nat)) (w : World) (ht : w.heap[gt]? = some (.cells #[v0, .slice a n c, v2, v3] 116 fz)) (h : Has w a (bytesV ac)) (hl : ac.length = n) (hn : n ≤ c) (hc : c ≤ maxLen) (hk : 4 * k + 4 ≤ n) :
    Calls Try.prog 78 #[.pointer (some ⟨gt, 0, none⟩), .int .i64 z] w fun e w' => e = .returned (.int .i64 (num ac (4 * k) 4 : Nat)) ∧ Below w.heap.size w w' := by
  subst hz
  have HH := Lib.hid h
  have HL := Lib.hid hl
  have qt := fun o => cell_of_heap ht o
  have lt := (Array.getElem?_eq_some_iff.1 ht).1
  have hm : n ≤ 9223372036854775807 := by unfold maxLen at hc; omega
  have HU := Lib.hid (fun W (hW : Below w.heap.size w W) (z : Int) (hz : z = ((4 * k : Nat) : Int)) => u32_z a n c (4 * k) z hz ac W (HH.out.below hW) HL.out hk hn hc)
  clear h hl
  go_enter Try.func78, Try.ntmps78
  go_wp2_with (first | (go_at_call 64; (with_reducible refine (HU.out _ (by exact blw) _ (by go_num)).mono ?_); rintro e w1 ⟨rfl, hb1⟩; have h1c := bc hb1; have h1f := bf hb1; have h1z := hb1.size; try simp only [World.size_alloc, World.size_drew] at h1z))
  go_ret
  exact ⟨rfl, blw⟩
set_option maxRecDepth 100000 in
set_option maxHeartbeats 1600000 in
/-- It throws, if there is none. -/
theorem action_bad (gt : Nat) (v0 v2 v3 : Value) (fz : Nat × Nat) (a : Option Addr) (n c : Nat) (k : Nat) (z : Int) (hz : z = (k : Nat)) (w : World) (ht : w.heap[gt]? = some (.cells #[v0, .slice a n c, v2, v3] 116 fz)) (hn : n ≤ c) (hc : c ≤ maxLen) (hk : 4 * k ≤ 9223372036854775807) (hbad : ¬ 4 * k + 4 ≤ n) :
    Calls Try.prog 78 #[.pointer (some ⟨gt, 0, none⟩), .int .i64 z] w fun e w' => e = .panicked thrown ∧ Below w.heap.size w w' := by
  subst hz
  have qt := fun o => cell_of_heap ht o
  have lt := (Array.getElem?_eq_some_iff.1 ht).1
  have HU := Lib.hid (fun W (z : Int) (hz : z = ((4 * k : Nat) : Int)) => u32_bad a n c z W (by omega) hn hc)
  go_enter Try.func78, Try.ntmps78
  go_wp2_with (first | (go_at_call 64; (with_reducible refine (HU.out _ _ (by go_num)).mono ?_); rintro e w1 ⟨rfl, hb1⟩; have h1c := bc hb1; have h1f := bf hb1; have h1z := hb1.size; try simp only [World.size_alloc, World.size_drew] at h1z))
  exact ⟨rfl, rfl, blw⟩
end Go.Proofs.Ythehcbbdkiomnaa
end
section

/- liga: from each action that an entry begins with they are there, up to a last one, or it throws. Conditions: a machine in memory, and actions as the slice says. -/
namespace Go.Proofs.Ythehcbbdkiomnaa
open Go.RowKit Go.Lib

/-- From an action on they are there, up to a last one. -/
def GoodA (ac : List UInt8) (k : Nat) : Prop := ∃ q, k ≤ q ∧ 4 * q + 4 ≤ ac.length ∧ 2147483648 ≤ num ac (4 * q) 4
def GoodN (vb ac : List UInt8) (j : Nat) : Prop := ∀ i, i < j → (entX vb 1 i).2.1 / 8192 % 2 = 1 → GoodA ac (entX vb 1 i).2.2.1
theorem GoodN.step {vb ac : List UInt8} {j : Nat} (h : GoodN vb ac j) (hj : (entX vb 1 j).2.1 / 8192 % 2 = 1 → GoodA ac (entX vb 1 j).2.2.1) : GoodN vb ac (j + 1) := by
  intro i hi hf
  by_cases e : i = j
  · subst e
    exact hj hf
  · exact h i (by omega) hf
set_option maxRecDepth 100000 in
set_option maxHeartbeats 6400000 in
theorem need_any (B gt g : Nat) (v2 v3 : Value) (bs : List UInt8) (rs : List RP) (S : Nat) (a : Option Addr) (n c : Nat) (ac : List UInt8) (w : World) (ht : w.heap[gt]? = some (.cells #[.pointer (some ⟨g, 0, none⟩), .slice a n c, v2, v3] 116 (0, 0))) (hM : MIs B g bs 1 rs S w) (h : Has w a (bytesV ac)) (hl : ac.length = n) (hn : n ≤ c) (hc : c ≤ maxLen) :
    Calls Try.prog 68 #[.pointer (some ⟨gt, 0, none⟩)] w fun e w' => ((GoodN (bs.drop (num bs 12 4)) ac (needE bs S) ∧ e = .returned (.tuple #[])) ∨ (¬ GoodN (bs.drop (num bs 12 4)) ac (needE bs S) ∧ e = .panicked thrown)) ∧ Below w.heap.size w w' := by
  have hAC := allocC
  have hAF := allocF
  have hmax : n ≤ 9223372036854775807 := by unfold maxLen at hc; omega
  have hlt0 := (Array.getElem?_eq_some_iff.1 ht).1
  have HT := Lib.hid (fun W (hW : Below w.heap.size w W) => (hW.block gt hlt0).trans ht)
  have HH := Lib.hid h
  have HL := Lib.hid hl
  have HEN := Lib.hid (fun W (hW : Below w.heap.size w W) => entries_any B g bs 1 rs S W (hM.below hW))
  have HOK := Lib.hid (fun W (hW : Below w.heap.size w W) (k : Nat) (z : Int) (hz : z = (k : Nat)) (hk : 4 * k + 4 ≤ n) => action_ok gt _ v2 v3 (0, 0) a n c ac k z hz W ((hW.block gt hlt0).trans ht) (h.below hW) hl hn hc hk)
  have HBAD := Lib.hid (fun W (hW : Below w.heap.size w W) (k : Nat) (z : Int) (hz : z = (k : Nat)) (hk9 : 4 * k ≤ 9223372036854775807) (hk : ¬ 4 * k + 4 ≤ n) => action_bad gt (.pointer (some ⟨g, 0, none⟩)) v2 v3 (0, 0) a n c k z hz W ((hW.block gt hlt0).trans ht) hn hc hk9 hk)
  have qt := fun o => cell_of_heap ht o
  have hN6 := needE_le bs S
  obtain ⟨N, hN⟩ : ∃ N, N = needE bs S := ⟨_, rfl⟩
  obtain ⟨vb, hvb⟩ : ∃ vb, vb = bs.drop (num bs 12 4) := ⟨_, rfl⟩
  rw [← hN, ← hvb] at HEN
  rw [← hN] at hN6
  rw [← hN, ← hvb]
  clear ht h hl hM hN hvb
  go_enter Try.func68, Try.ntmps68
  go_wp2_with (go_at_call 96; (with_reducible refine (HEN.out _ (by exact blw)).mono ?_); rintro e w1 ⟨aE, cE, rfl, ho, _, _, _, hb1⟩; have HHE := Lib.hid (has_of_owns ho); have HB1 := Lib.hid hb1; clear ho hb1)
  go_loopw [2, 11] (fun sn i wr => ∃ j s : Nat, j ≤ N ∧ sn = .int .i64 (s : Nat) ∧ i = .int .i64 (j : Nat) ∧ GoodN vb ac j ∧ (s = 0 ∨ (4 * s ≤ n ∧ 2147483648 ≤ num ac (4 * (s - 1)) 4)) ∧ Below w.heap.size w wr ∧ Below w1.heap.size w1 wr) (fun _ i _ => N - (RowKit.intOf i).toNat)
  case atStart => exact ⟨0, 0, Nat.zero_le _, rfl, rfl, fun i hi => absurd hi (by omega), .inl rfl, HB1.out, brefl _⟩
  case round =>
    obtain ⟨j, s, hj, rfl, rfl, hgood, hs, hb, hbe⟩ := hrel
    rename World => wr
    have HG := Lib.hid hgood
    have HS := Lib.hid hs
    have HB := Lib.hid hb
    have HBE := Lib.hid hbe
    have hs4 : 4 * s ≤ n := by rcases hs with rfl | h <;> omega
    clear hgood hs hb hbe
    by_cases hlt : j < N
    · obtain ⟨gE, oE, rfl, hg, c0, c1, c2, c3⟩ := ent_at (HHE.out.below HBE.out) hlt
      have hle := entX_le vb 1 j
      have hstep := HG.out.step (vb := vb) (ac := ac) (j := j)
      have hneed : GoodN vb ac N → (entX vb 1 j).2.1 / 8192 % 2 = 1 → GoodA ac (entX vb 1 j).2.2.1 := fun h => h j hlt
      generalize entX vb 1 j = E at *
      obtain ⟨e0, F, A, Bv⟩ := E
      simp only at c0 c1 c2 c3 hle hstep hneed
      obtain ⟨_, hF6, hA6, hB6⟩ := hle
      have HST := Lib.hid hstep
      have HND := Lib.hid hneed
      clear hstep hneed
      by_cases hF : F / 8192 % 2 = 1
      · have dF : bits .and .i64 (F : Int) 8192 = 8192 := flag_yes F 13 hF6 (by decide) 8192 rfl hF
        have HF := Lib.hid hF
        clear hF
        by_cases hA : A < s
        · have dA : decide ((A : Int) < (s : Int)) = true := by simp; omega
          have HGA := Lib.hid (show GoodA ac A from ⟨s - 1, by omega, by rw [HL.out]; omega, by rcases HS.out with h | h; omega; exact h.2⟩)
          go_wp2_with fail
          go_roundw
          case rel => exact ⟨j + 1, s, hlt, rfl, by go_num, HST.out (fun _ => HGA.out), HS.out, HB.out.trans (Below.mono (balloc (brefl _) _) HB.out.size), HBE.out.trans (Below.mono (balloc (brefl _) _) HBE.out.size)⟩
          case measure => simp only [RowKit.intOf]; omega
        · have dA : decide ((A : Int) < (s : Int)) = false := by simp; omega
          have HA := Lib.hid hA
          go_wp2_with fail
          go_loopw [2] (fun sn wi => ∃ q : Nat, sn = .int .i64 ((q + 1 : Nat) : Int) ∧ A ≤ q ∧ (q = A ∨ 4 * q ≤ n) ∧ (∀ k, A ≤ k → k < q → 4 * k + 4 ≤ n ∧ ¬ 2147483648 ≤ num ac (4 * k) 4) ∧ Below wr.heap.size wr wi) (fun sn _ => n + 65540 - (RowKit.intOf sn).toNat)
          case atStart => exact ⟨A, by go_num, Nat.le_refl _, .inl rfl, fun k h1 h2 => absurd h2 (by omega), balloc (brefl _) _⟩
          case round =>
            obtain ⟨q, rfl, hq, hqn, hno, hbi⟩ := hrel
            rename World => wi
            have HNO := Lib.hid hno
            have HBI := Lib.hid (HB.out.trans (hbi.mono HB.out.size))
            have HBJ := Lib.hid (HBE.out.trans (hbi.mono HBE.out.size))
            have HBK := Lib.hid hbi
            clear hno hbi
            by_cases h4 : 4 * q + 4 ≤ n
            · have hnum : num ac (4 * q) 4 < 4294967296 := by have := num4_lt ac (4 * q); omega
              have HOKq := Lib.hid (fun W (hW : Below wi.heap.size wi W) (z : Int) (hz : z = (q : Nat)) => HOK.out W (HBI.out.trans (hW.mono HBI.out.size)) q z hz h4)
              obtain ⟨X, hX⟩ : ∃ X, X = num ac (4 * q) 4 := ⟨_, rfl⟩
              rw [← hX] at HOKq hnum
              have HX := Lib.hid hX
              clear hX
              by_cases hlast : 2147483648 ≤ X
              · have dL : bits .and .i64 (X : Int) 2147483648 = 2147483648 := last_yes X hnum hlast
                have HGA := Lib.hid (show GoodA ac A from ⟨q, hq, by rw [HL.out]; exact h4, by rw [← HX.out]; exact hlast⟩)
                have HLAST := Lib.hid (show 2147483648 ≤ num ac (4 * (q + 1 - 1)) 4 by rw [Nat.add_sub_cancel, ← HX.out]; exact hlast)
                clear hlast
                go_wp2_with (first | (go_at_call 78; (with_reducible refine (HOKq.out _ (by exact blw) _ (by go_num)).mono ?_); rintro e w5 ⟨rfl, hb5⟩; have HB5 := Lib.hid hb5; clear hb5))
                go_roundw
                case rel => exact ⟨j + 1, q + 1, hlt, rfl, by go_num, HST.out (fun _ => HGA.out), .inr ⟨by omega, HLAST.out⟩, HBI.out.trans (HB5.out.mono HBI.out.size), HBJ.out.trans (HB5.out.mono HBJ.out.size)⟩
                case measure => simp only [RowKit.intOf]; omega
              · have dL : bits .and .i64 (X : Int) 2147483648 = 0 := last_no X hnum hlast
                have HLN := Lib.hid hlast
                clear hlast
                go_wp2_with (first | (go_at_call 78; (with_reducible refine (HOKq.out _ (by exact blw) _ (by go_num)).mono ?_); rintro e w5 ⟨rfl, hb5⟩; have HB5 := Lib.hid hb5; clear hb5))
                go_roundw
                case rel =>
                  refine ⟨q + 1, by go_num, by omega, .inr (by omega), fun k h1 h2 => ?_, HBK.out.trans (HB5.out.mono HBK.out.size)⟩
                  by_cases e : k = q
                  · subst e
                    exact ⟨h4, by rw [← HX.out]; exact HLN.out⟩
                  · exact HNO.out k h1 (by omega)
                case measure => simp only [RowKit.intOf]; omega
            · have HBADq := Lib.hid (fun W (hW : Below wi.heap.size wi W) (z : Int) (hz : z = (q : Nat)) => HBAD.out W (HBI.out.trans (hW.mono HBI.out.size)) q z hz)
              have HBAD2 := Lib.hid (show ¬ GoodN vb ac N from fun hg => by
                obtain ⟨k, h1, h2, h3⟩ := HND.out hg HF.out
                rw [HL.out] at h2
                by_cases e : k < q
                · exact (HNO.out k h1 e).2 h3
                · omega)
              go_wp2_with (first | (go_at_call 78; (with_reducible refine (HBADq.out _ (by exact blw) _ (by go_num) (by omega) h4).mono ?_); rintro e w5 ⟨rfl, hb5⟩; have HB5 := Lib.hid hb5; clear hb5))
              exact ⟨rfl, .inr ⟨HBAD2.out, rfl⟩, HBI.out.trans (HB5.out.mono HBI.out.size)⟩
      · have dF : bits .and .i64 (F : Int) 8192 = 0 := flag_no F 13 hF6 (by decide) 8192 rfl hF
        have HF := Lib.hid hF
        clear hF
        go_wp2_with fail
        go_roundw
        case rel => exact ⟨j + 1, s, hlt, rfl, by go_num, HST.out (fun h => absurd h HF.out), HS.out, HB.out.trans (Below.mono (balloc (brefl _) _) HB.out.size), HBE.out.trans (Below.mono (balloc (brefl _) _) HBE.out.size)⟩
        case measure => simp only [RowKit.intOf]; omega
    · obtain rfl : N = j := by omega
      go_wp2_with fail
      go_end0
      exact ⟨.inl ⟨HG.out, rfl⟩, HB.out⟩
end Go.Proofs.Ythehcbbdkiomnaa
end
