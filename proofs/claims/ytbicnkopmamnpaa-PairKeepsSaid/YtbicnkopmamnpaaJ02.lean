/- Joined from: Ref1 Cut Ref2 Sf2 Put Zeros. -/
import Derived.Test.YtbicnkopmamnpaaJ01
import Derived.Lib.AppendStr
section

/- Contracts of the reference of layer 1: In, U, S16, S32, Rows. Conditions: sizes as the law hands them in. -/
namespace Go.Proofs.Ytbicnkopmamnpaa
open Go.RowKit

set_option maxRecDepth 100000 in
set_option maxHeartbeats 800000 in
theorem in_any (n : Nat) (k m : Int) (w : World) (hn : n ≤ maxLen) (hk : -9223372036854775808 ≤ k ∧ k ≤ 9223372036854775807) (hm : -9223372036854775808 ≤ m ∧ m ≤ 9223372036854775807) :
    Calls Try.prog 73 #[.int .i64 n, .int .i64 k, .int .i64 m] w fun e w' => e = .returned (.bool (decide (0 ≤ k ∧ 0 ≤ m ∧ k ≤ n ∧ m ≤ n - k))) ∧ w = w' := by
  unfold maxLen at hn
  obtain ⟨hk1, hk2⟩ := hk
  obtain ⟨hm1, hm2⟩ := hm
  obtain ⟨B, hB⟩ : ∃ B : Bool, B = decide (0 ≤ k ∧ 0 ≤ m ∧ k ≤ n ∧ m ≤ n - k) := ⟨_, rfl⟩
  rw [← hB]
  have HB := Lib.hid hB
  clear hB
  by_cases h1 : 0 ≤ k
  · by_cases h2 : 0 ≤ m
    · by_cases h3 : k ≤ n
      · go_enter Try.func73, Try.ntmps73
        go_wp2
        go_ret
        refine ⟨?_, rfl⟩
        rw [HB.out]
        have : decide (m ≤ (n : Int) - k) = decide (0 ≤ k ∧ 0 ≤ m ∧ k ≤ n ∧ m ≤ n - k) := by rw [decide_eq_decide]; omega
        rw [← this]; rfl
      · have hb : B = false := by rw [HB.out]; simp; omega
        subst hb
        go_enter Try.func73, Try.ntmps73
        go_wp2
        go_ret
        exact ⟨rfl, rfl⟩
    · have hb : B = false := by rw [HB.out]; simp; omega
      subst hb
      go_enter Try.func73, Try.ntmps73
      go_wp2
      go_ret
      exact ⟨rfl, rfl⟩
  · have hb : B = false := by rw [HB.out]; simp; omega
    subst hb
    go_enter Try.func73, Try.ntmps73
    go_wp2
    go_ret
    exact ⟨rfl, rfl⟩

set_option maxHeartbeats 400000 in
theorem s16_any (x : Int) (w : World) (h : -1 ≤ x ∧ x ≤ 65535) : Calls Try.prog 146 #[.int .i64 x] w fun e w' => e = .returned (.int .i64 (if 32768 ≤ x then x - 65536 else x)) ∧ w = w' := by
  obtain ⟨h1, h2⟩ := h
  by_cases h : 32768 ≤ x
  · rw [if_pos h]
    go_enter Try.func146, Try.ntmps146
    go_wp2
    go_ret
    exact ⟨rfl, rfl⟩
  · rw [if_neg h]
    go_enter Try.func146, Try.ntmps146
    go_wp2
    go_ret
    exact ⟨rfl, rfl⟩
set_option maxHeartbeats 400000 in
theorem s32_any (x : Int) (w : World) (h : -1 ≤ x ∧ x ≤ 4294967295) : Calls Try.prog 145 #[.int .i64 x] w fun e w' => e = .returned (.int .i64 (if 2147483648 ≤ x then x - 4294967296 else x)) ∧ w = w' := by
  obtain ⟨h1, h2⟩ := h
  by_cases h : 2147483648 ≤ x
  · rw [if_pos h]
    go_enter Try.func145, Try.ntmps145
    go_wp2
    go_ret
    exact ⟨rfl, rfl⟩
  · rw [if_neg h]
    go_enter Try.func145, Try.ntmps145
    go_wp2
    go_ret
    exact ⟨rfl, rfl⟩

theorem num_lt (bs : List UInt8) (k : Nat) : ∀ i, num bs k i < 256 ^ i
  | 0 => by simp [num]
  | i + 1 => by
    have := num_lt bs k i
    have hb := byte_le (bs.getD (k + i) 0)
    simp only [num, Nat.pow_succ]; omega

def URel (bs : List UInt8) (k m : Nat) (x i : Value) : Prop := ∃ j : Nat, j ≤ m ∧ i = .int .i64 j ∧ x = .int .i64 (num bs k j : Nat)

set_option maxRecDepth 100000 in
set_option maxHeartbeats 800000 in
theorem u_in (a : Option Addr) (n c k m : Nat) (bs : List UInt8) (w : World) (h : Has w a (bytesV bs)) (hl : bs.length = n) (hk : k + m ≤ n) (hm : m ≤ 4) (hn : n ≤ maxLen) :
    Calls Try.prog 70 #[.slice a n c, .int .i64 k, .int .i64 m] w fun e w' => e = .returned (.int .i64 (num bs k m : Nat)) ∧ w = w' := by
  have hin := in_any n k m
  have hd : decide ((0 : Int) ≤ k ∧ (0 : Int) ≤ m ∧ (k : Int) ≤ n ∧ (m : Int) ≤ n - k) = true := by simp; omega
  rw [hd] at hin
  have HI := Lib.hid hin
  have HH := Lib.hid h
  have HL := Lib.hid hl
  have hn' := hn
  unfold maxLen at hn
  clear hin hd h hl
  go_enter Try.func70, Try.ntmps70
  go_wp2_with (first | (go_at_call 73; refine (HI.out _ hn' (by omega) (by omega)).mono ?_; rintro e w_ ⟨rfl, rfl⟩))
  go_loop [7, 8] (URel bs k m) (fun _ i => m - (Go.RowKit.intOf i).toNat)
  case atStart => exact ⟨0, Nat.zero_le _, rfl, rfl⟩
  case round =>
    obtain ⟨j, hj, rfl, rfl⟩ := hrel
    by_cases hlt : j < m
    · obtain ⟨b, o, ha, hb, hg⟩ := HH.out.get (by rw [bytesV_length, HL.out]; omega)
      have hc := hg (k + j) _ (bytesV_get bs (k + j) (by rw [HL.out]; omega))
      have hn1 : num bs k (j + 1) = 256 * num bs k j + (bs.getD (k + j) 0).toNat := rfl
      have HN := Lib.hid hn1
      have hx : num bs k j ≤ 16777215 := by
        have := num_lt bs k j
        have h2 : 256 ^ j ≤ 256 ^ 3 := Nat.pow_le_pow_right (by omega) (by omega)
        omega
      have hby := byte_le (bs.getD (k + j) 0)
      generalize (bs.getD (k + j) 0).toNat = y at *
      generalize num bs k j = x at *
      clear hn1 hg
      subst ha
      go_wp2
      go_round
      case rel => exact ⟨j + 1, by omega, by go_num, by rw [HN.out]; go_num⟩
      case measure => simp [Go.RowKit.intOf]; omega
    · have : j = m := by omega
      subst this
      go_wp2
      go_ret
      exact ⟨rfl, rfl⟩

set_option maxHeartbeats 400000 in
theorem u_out (a : Option Addr) (n c m : Nat) (k : Int) (w : World) (hk : ¬ (0 ≤ k ∧ k + m ≤ n)) (hk' : -9223372036854775808 ≤ k ∧ k ≤ 9223372036854775807) (hm : m ≤ 4) (hn : n ≤ maxLen) :
    Calls Try.prog 70 #[.slice a n c, .int .i64 k, .int .i64 m] w fun e w' => e = .returned (.int .i64 (-1)) ∧ w = w' := by
  have hin := in_any n k m
  have hd : decide ((0 : Int) ≤ k ∧ (0 : Int) ≤ m ∧ k ≤ n ∧ (m : Int) ≤ n - k) = false := by simp; omega
  rw [hd] at hin
  have HI := Lib.hid hin
  have HK := Lib.hid hk'
  have hn' := hn
  unfold maxLen at hn
  clear hin hd hk hk'
  go_enter Try.func70, Try.ntmps70
  go_wp2_with (first | (go_at_call 73; refine (HI.out _ hn' HK.out (by omega)).mono ?_; rintro e w_ ⟨rfl, rfl⟩))
  go_ret
  exact ⟨rfl, rfl⟩
end Go.Proofs.Ytbicnkopmamnpaa
end
section

/- Contracts of the law's 'cut': a piece of bytes, cut three ways, or that it was thrown. Conditions: the slice's, and that the kind is one of three. -/
namespace Go.Proofs.Ytbicnkopmamnpaa
open Go.RowKit

/-- Is there such a piece? -/
def fitK (n : Nat) (kind : Nat) (k m s : Int) : Prop := match kind with
  | 0 => 0 ≤ k ∧ 0 ≤ m ∧ k ≤ n ∧ m ≤ n - k
  | 1 => 0 ≤ k ∧ k ≤ n
  | _ => 0 ≤ k ∧ k ≤ n ∧ 0 ≤ m ∧ 0 ≤ s ∧ (s = 0 ∨ m.toNat ≤ (n - k.toNat) / s.toNat)
end Go.Proofs.Ytbicnkopmamnpaa
end
section

/- Contract of the reference's Rows. Conditions: sizes as the law hands them in. -/
namespace Go.Proofs.Ytbicnkopmamnpaa
open Go.RowKit

set_option maxRecDepth 100000 in
set_option maxHeartbeats 800000 in
theorem rref_any (n : Nat) (k m s : Int) (B : Bool) (hB : B = true ↔ fitK n 2 k m s) (w : World) (hn : n ≤ maxLen) (hk : -9223372036854775808 ≤ k ∧ k ≤ 9223372036854775807) (hm : -9223372036854775808 ≤ m ∧ m ≤ 9223372036854775807) (hs : -9223372036854775808 ≤ s ∧ s ≤ 9223372036854775807) :
    Calls Try.prog 97 #[.int .i64 n, .int .i64 k, .int .i64 m, .int .i64 s] w fun e w' => e = .returned (.bool B) ∧ w = w' := by
  unfold maxLen at hn
  obtain ⟨hk1, hk2⟩ := hk
  obtain ⟨hm1, hm2⟩ := hm
  obtain ⟨hs1, hs2⟩ := hs
  simp only [fitK] at hB
  have bad : ¬ (0 ≤ k ∧ k ≤ n ∧ 0 ≤ m ∧ 0 ≤ s) → B = false := by
    intro h
    cases B with
    | false => rfl
    | true => exact absurd ((hB.1 rfl)) (fun g => h ⟨g.1, g.2.1, g.2.2.1, g.2.2.2.1⟩)
  by_cases h1 : 0 ≤ k
  · by_cases h2 : 0 ≤ m
    · by_cases h3 : 0 ≤ s
      · by_cases h4 : k ≤ n
        · by_cases h5 : s = 0
          · have hb : B = true := hB.2 ⟨h1, h4, h2, h3, .inl h5⟩
            subst hb
            subst h5
            clear hB bad
            go_enter Try.func97, Try.ntmps97
            go_wp2
            go_ret
            exact ⟨rfl, rfl⟩
          · obtain ⟨j, rfl⟩ : ∃ j : Nat, k = j := ⟨k.toNat, by omega⟩
            obtain ⟨i, rfl⟩ : ∃ i : Nat, m = i := ⟨m.toNat, by omega⟩
            obtain ⟨t, rfl⟩ : ∃ t : Nat, s = t := ⟨s.toNat, by omega⟩
            simp only [Int.toNat_natCast] at hB
            have hq : (((n : Int) - (j : Int)) / (t : Int)) = (((n - j) / t : Nat) : Int) := by
              rw [← Int.ofNat_sub (by omega)]; exact (Int.natCast_ediv _ _).symm
            have ht : ((t : Int) == 0) = false := by simp; omega
            by_cases h6 : i ≤ (n - j) / t
            · have hb : B = true := hB.2 ⟨h1, h4, h2, h3, .inr h6⟩
              subst hb
              have HQ := Lib.hid (show ((t : Int) == 0 || decide ((i : Int) ≤ ((n : Int) - (j : Int)) / (t : Int))) = true by
                rw [hq]
                generalize (n - j) / t = q at *
                have : decide ((i : Int) ≤ (q : Int)) = true := by simp; omega
                rw [this, Bool.or_true])
              clear hB bad h6 hq ht
              go_enter Try.func97, Try.ntmps97
              go_wp2
              go_ret
              exact ⟨by rw [HQ.out]; rfl, rfl⟩
            · have hb : B = false := by
                cases B with
                | false => rfl
                | true =>
                  rcases (hB.1 rfl).2.2.2.2 with h | h
                  · exact absurd h h5
                  · exact absurd h h6
              subst hb
              have HQ := Lib.hid (show ((t : Int) == 0 || decide ((i : Int) ≤ ((n : Int) - (j : Int)) / (t : Int))) = false by
                rw [hq, ht]
                generalize (n - j) / t = q at *
                have : decide ((i : Int) ≤ (q : Int)) = false := by simp; omega
                rw [this]; rfl)
              clear hB bad h6 hq ht
              go_enter Try.func97, Try.ntmps97
              go_wp2
              go_ret
              exact ⟨by rw [HQ.out]; rfl, rfl⟩
        · obtain rfl := bad (fun h => h4 h.2.1)
          clear hB bad
          go_enter Try.func97, Try.ntmps97
          go_wp2
          go_ret
          exact ⟨rfl, rfl⟩
      · obtain rfl := bad (fun h => h3 h.2.2.2)
        clear hB bad
        go_enter Try.func97, Try.ntmps97
        go_wp2
        go_ret
        exact ⟨rfl, rfl⟩
    · obtain rfl := bad (fun h => h2 h.2.2.1)
      clear hB bad
      go_enter Try.func97, Try.ntmps97
      go_wp2
      go_ret
      exact ⟨rfl, rfl⟩
  · obtain rfl := bad (fun h => h1 h.1)
    clear hB bad
    go_enter Try.func97, Try.ntmps97
    go_wp2
    go_ret
    exact ⟨rfl, rfl⟩
end Go.Proofs.Ytbicnkopmamnpaa
end
section

/- Contracts of package sfnt's small functions: lack, checksum, put32, put16, header. Conditions: sizes. Contracts of package sfnt's put32 and put16: numbers behind a slice of the call's own. Conditions: sizes; the numbers' own block. -/
namespace Go.Proofs.Ytbicnkopmamnpaa
open Go.RowKit

/-- A row of bytes of the call's own isn't a block of another kind. -/
theorem own_ne {w : World} {base n : Nat} {v : Value} {xs : List Value} (h : w.ownsRow base 5 1 v n xs) {g : Nat} {cs : Array Value} {t : Nat} {fz : Nat × Nat} (hg : w.heap[g]? = some (.cells cs t fz)) (ht : t ≠ 5) : some g ≠ v.ownBlock := by
  rcases h.2 with ⟨rfl, _⟩ | ⟨g', cap, cur, rfl, _, hh, _⟩
  · simp [Value.ownBlock]
  · simp only [Value.ownBlock, ne_eq, Option.some.injEq]
    rintro rfl
    rw [hg] at hh
    injection hh with hh
    injection hh with _ h2 _
    exact ht h2

theorem bytesV_append (xs ys : List UInt8) : bytesV (xs ++ ys) = bytesV xs ++ bytesV ys := by simp [bytesV]
/-- All blocks that hold no bytes are as they were. -/
def Kept (w w' : World) : Prop := w.heap.size ≤ w'.heap.size ∧ ∀ (g : Nat) (cs : Array Value) (t : Nat) (fz : Nat × Nat), w.heap[g]? = some (.cells cs t fz) → t ≠ 5 → w'.heap[g]? = w.heap[g]?
theorem Kept.refl (w : World) : Kept w w := ⟨Nat.le_refl _, fun _ _ _ _ _ _ => rfl⟩
theorem Kept.trans {a b c : World} (h : Kept a b) (k : Kept b c) : Kept a c := ⟨Nat.le_trans h.1 k.1, fun g cs t fz hg ht => (k.2 g cs t fz ((h.2 g cs t fz hg ht).trans hg) ht).trans (h.2 g cs t fz hg ht)⟩
theorem Kept.below {w w' : World} (h : Below w.heap.size w w') : Kept w w' := ⟨h.size, fun g _ _ _ hg _ => h.block g (Array.getElem?_eq_some_iff.1 hg).1⟩
theorem Kept.grown {w w' : World} {base n : Nat} {v : Value} {xs : List Value} (h : w.ownsRow base 5 1 v n xs) (hg : w.grownBy w' v.ownBlock) : Kept w w' :=
  ⟨hg.size, fun g _ _ _ h1 ht => hg.block g (Array.getElem?_eq_some_iff.1 h1).1 (own_ne h h1 ht)⟩
theorem Kept.cell {w w' : World} (h : Kept w w') {g : Nat} {cs : Array Value} {t : Nat} {fz : Nat × Nat} (hg : w.heap[g]? = some (.cells cs t fz)) (ht : t ≠ 5) (o : Nat) : w'.cell? ⟨g, o, none⟩ = cs[o]? := by
  rw [World.cell?_of_block (w := w) (by exact h.2 g cs t fz hg ht)]
  simp [World.cell?, hg]
end Go.Proofs.Ytbicnkopmamnpaa
end
section

/- Contracts of the document's Put: a number's bytes behind others. Conditions: a slice of the call's own; a number from 0 on. A class of worlds: all blocks that hold no bytes are as they were. -/
namespace Go.Proofs.Ytbicnkopmamnpaa
open Go.RowKit

def beN : Nat → Nat → List UInt8
  | 0, _ => []
  | s + 1, z => UInt8.ofNat (z / 256 ^ s) :: beN s z
theorem beN_length (s z : Nat) : (beN s z).length = s := by induction s with | zero => rfl | succ s ih => simp [beN, ih]

def PutR (W : World) (base n : Nat) (xs : List UInt8) (z size : Nat) (b i : Value) (wr : World) : Prop :=
  ∃ s P a c, s ≤ size ∧ P ++ beN s z = beN size z ∧ P.length + s = size ∧ i = .int .i64 ((s : Int) - 1) ∧ b = .slice a (n + P.length) c ∧ wr.ownsRow base 5 1 b (n + P.length) (bytesV (xs ++ P)) ∧ n + P.length ≤ c ∧ c ≤ maxLen ∧ (a = none → c = 0) ∧ Below base W wr ∧ Kept W wr
set_option maxRecDepth 100000 in
set_option maxHeartbeats 1600000 in
theorem put_any (base : Nat) (a : Option Addr) (n c z size : Nat) (xs : List UInt8) (w : World) (hown : w.ownsRow base 5 1 (.slice a n c) n (bytesV xs)) (hbase : base ≤ w.heap.size) (hz : z < 9223372036854775808) (hn : n ≤ 1000000000) (hs : size ≤ 8) :
    Calls Try.prog 67 #[.slice a n c, .int .i64 z, .int .i64 size] w fun e w' => ∃ a' c', e = .returned (.slice a' (n + size) c') ∧ w'.ownsRow base 5 1 (.slice a' (n + size) c') (n + size) (bytesV (xs ++ beN size z)) ∧ n + size ≤ c' ∧ c' ≤ maxLen ∧ (a' = none → c' = 0) ∧ Below base w w' ∧ Kept w w' := by
  obtain ⟨_, _, he, k1, k2, k3⟩ := owns_slice hown
  cases he
  have HO := Lib.hid hown
  have HA := Lib.hid k3
  clear hown k3
  go_enter Try.func67, Try.ntmps67
  go_wp2_with fail
  go_loopw [0, 7] (PutR w base n xs z size) (fun _ i _ => ((Go.RowKit.intOf i) + 1).toNat)
  case atStart => exact ⟨size, [], a, c, Nat.le_refl _, rfl, by simp, by first | rfl | go_num, rfl, by simpa using HO.out, by simpa using k1, k2, HA.out, Below.refl _ _, Kept.refl _⟩
  case round =>
    obtain ⟨s, P, a1, c1, hss, hP, hPl, rfl, rfl, hox, k11, k12, k13, hbr, hkp⟩ := hrel
    have HKP := Lib.hid hkp
    have hwz := hkp.1
    clear hkp
    have HX := Lib.hid hox
    have HA1 := Lib.hid k13
    have HP := Lib.hid hP
    have HPL := Lib.hid hPl
    have HB := Lib.hid hbr
    clear hox k13 hP hPl hbr
    rcases s with _ | s
    · go_wp2
      go_ret
      have e0 : P = beN size z := by have := HP.out; simpa [beN] using this
      have hpl : P.length = size := by have := HPL.out; omega
      rw [hpl] at HX k11
      exact ⟨a1, c1, by rw [hpl]; rfl, by rw [← e0]; exact HX.out, k11, k12, HA1.out, HB.out, HKP.out⟩
    · have e1 : (((s + 1 : Nat) : Int) - 1) = (s : Int) := by omega
      rw [e1]
      go_wp2_with fail
      go_loopw [8, 9] (fun k j W => ∃ m : Nat, m ≤ s ∧ j = .int .i64 (m : Nat) ∧ k = .int .i64 ((z / 256 ^ m : Nat) : Int) ∧ W = wr) (fun _ j _ => s - (Go.RowKit.intOf j).toNat)
      case atStart => exact ⟨0, Nat.zero_le _, rfl, by simp, by first | rfl | trivial⟩
      case round =>
        obtain ⟨m, hm, rfl, rfl, rfl⟩ := hrel
        have hle : z / 256 ^ m ≤ z := Nat.div_le_self _ _
        by_cases hlt : m < s
        · have e2 : z / 256 ^ (m + 1) = z / 256 ^ m / 256 := by rw [Nat.pow_succ, Nat.div_div_eq_div_mul]
          have E2 := Lib.hid e2
          clear e2
          generalize z / 256 ^ m = q at *
          go_wp2
          go_roundw
          case rel => exact ⟨m + 1, by omega, by go_num, by rw [E2.out]; go_num, by first | rfl | trivial⟩
          case measure => first | (simp [Go.RowKit.intOf]; done) | (simp [Go.RowKit.intOf]; omega)
        · obtain rfl : m = s := by omega
          have e3 : bytesV [UInt8.ofNat (z / 256 ^ m)] = [.int .u8 ((z / 256 ^ m : Nat) % 256 : Int)] := by simp [bytesV, UInt8.toNat_ofNat']
          have E3 := Lib.hid e3
          have hbe : beN (m + 1) z = UInt8.ofNat (z / 256 ^ m) :: beN m z := rfl
          have HBE := Lib.hid hbe
          clear e3 hbe
          generalize z / 256 ^ m = q at *
          have hpm : P.length + (m + 1) = size := HPL.out
          go_wp2_with (at_builtin; refine wpApp rfl _ _ 22 rfl base 5 (.int .u8 0) 1 1 Try.underlying22 u8_info rfl (by decide) _ (n + P.length) (bytesV (xs ++ P)) rfl (owns_below HX.out (balloc (brefl wr) _) (Nat.le_refl _)) (some ⟨wr.heap.size, 0, none⟩) 1 1 (bytesV [UInt8.ofNat q]) rfl rfl (by rw [E3.out]; exact has_alloc _ _ _) (fun h => by cases h) (bytesV_one _) (by unfold maxLen; omega) (by omega) (by simp; omega) ?_; intro a6 c6 w6 hown6 k61 k62 k63 hb6 hg6; have HO6 := Lib.hid hown6; have HA6 := Lib.hid k63; have HB6 := Lib.hid hb6; have HG6 := Lib.hid hg6; clear hown6 k63 hb6 hg6)
          go_roundw
          case rel => exact ⟨m, P ++ [UInt8.ofNat q], a6, c6, by omega, by have := HP.out; rw [HBE.out] at this; simpa using this, by simp; omega, by first | rfl | go_num, by first | (simp; done) | (simp; rfl), by rw [← List.append_assoc, bytesV_append (xs ++ P), List.length_append, ← Nat.add_assoc]; exact HO6.out, by simp; omega, k62, HA6.out, HB.out.trans (((balloc (brefl wr) _).mono (by omega)).trans HB6.out), HKP.out.trans ((Kept.below (balloc (brefl wr) _)).trans (Kept.grown (owns_below HX.out (balloc (brefl wr) _) (Nat.le_refl _)) HG6.out))⟩
          case measure => first | (simp [Go.RowKit.intOf]; done) | (simp [Go.RowKit.intOf]; omega)

structure KeptW (W : World) where
  val : World
  is : Kept W val
instance (W : World) : Nonempty (KeptW W) := ⟨⟨W, Kept.refl W⟩⟩
theorem kept_start (W : World) : ∃ p : KeptW W, W.drew = p.val := ⟨⟨W.drew, Kept.below (bdrew1 (brefl W))⟩, rfl⟩
theorem kept_of {W W' : World} (h : Kept W W') : ∃ p : KeptW W, W' = p.val := ⟨⟨W', h⟩, rfl⟩
end Go.Proofs.Ytbicnkopmamnpaa
end
section

/- 'append' of so many noughts does what 'append' of a string of noughts does. Condition: sizes. -/
namespace Go.Proofs.Ytbicnkopmamnpaa
open Go.RowKit

theorem run_zeros {P : Program} (w : World) (t tn u ty e : TypeId) (i : TypeInfo) (ht : P.underlying t = some (.slice e)) (htn : P.underlying tn = some (.int .i64)) (hu : P.underlying u = some .string) (hi : P.info? e = some i) (hz : i.zero = some (.int .u8 0)) (hs1 : i.size = 1) (hby : i.bytes = 1)
    (base : Option Addr) (n c k : Nat) (hb : n + k ≤ 140737488355328) :
    (Builtin.append_ #[t, tn] ty #[.slice base n c, .int .i64 k]).run P w = (Builtin.append_ #[t, u] ty #[.slice base n c, .string (str (List.replicate k 0))]).run P w := by
  have hsz : (str (List.replicate k 0)).size = k := by simp [str, ByteArray.size]
  have hsc : Lib.strCells (str (List.replicate k 0)) = List.replicate k (Value.int .u8 0) := by simp [Lib.strCells, str]
  have hf : ∀ w, (Builtin.firstCells 1 k (.string (str (List.replicate k 0)))).run P w = .ok (List.replicate k (Value.int .u8 0)).toArray w := fun w => by
    have := Lib.run_firstCells_string (P := P) w 1 (str (List.replicate k 0))
    rw [hsz, hsc] at this
    exact this
  clear hsc
  generalize str (List.replicate k 0) = s at *
  have h3' : ¬ (9223372036854775807 < (n : Int)) := by omega
  have hw : IntKind.i64.wrap (k : Int) = k := by rw [IntKind.wrap_i64]; omega
  have h1 : ¬ ((k : Int) < 0) := by omega
  have h2 : ¬ (281474976710656 < (k : Int)) := by omega
  have h3 : ¬ (9223372036854775807 < ((n : Int) + (k : Int))) := by omega
  have h5 : Builtin.zeroCells (Value.int .u8 0).cells k = (List.replicate k (Value.int .u8 0)).toArray := by
    apply Array.ext'
    have e : (Value.int .u8 0).cells = #[Value.int .u8 0] := rfl
    rw [e]
    simp only [Builtin.zeroCells, Nat.mul_one, List.size_toArray, List.length_cons, List.length_nil, Nat.zero_add, Nat.mod_one]
    apply List.ext_getElem <;> simp
  have hw0 : IntKind.i64.wrap 0 = 0 := by rw [IntKind.wrap_i64]; omega
  have hfit : ¬ (n + k ≤ c) → ¬ (281474976710656 < Builtin.nextslicecap (n + k) c) := fun h => by
    have := growslice_fits (need := n + k) (old := c) (bytes := 1) (by omega) (by omega)
    omega
  by_cases hroom : n + k ≤ c
  · by_cases hk : k = 0
    · subst hk
      simp only [Nat.add_zero] at hroom
      simp [Builtin.append_, run_underlying ht, run_underlying htn, run_underlying hu, sizeOf, typeInfo, zeroValue, hi, hz, hs1, hby, Builtin.lenOf, asInt, asIntOf, hsz, hf, h3', hw0, hroom]
    · simp [Builtin.append_, run_underlying ht, run_underlying htn, run_underlying hu, sizeOf, typeInfo, zeroValue, hi, hz, hs1, hby, Builtin.lenOf, asInt, asIntOf, hw, h1, h2, h3, h5, hsz, hf, hk, hroom]
  · have hfit' := hfit hroom
    by_cases hk : k = 0
    · subst hk
      simp only [Nat.add_zero] at hroom hfit'
      simp [Builtin.append_, run_underlying ht, run_underlying htn, run_underlying hu, sizeOf, typeInfo, zeroValue, hi, hz, hs1, hby, Builtin.lenOf, asInt, asIntOf, hsz, hf, h3', hw0, hroom, hfit']
    · simp [Builtin.append_, run_underlying ht, run_underlying htn, run_underlying hu, sizeOf, typeInfo, zeroValue, hi, hz, hs1, hby, Builtin.lenOf, asInt, asIntOf, hw, h1, h2, h3, h5, hsz, hf, hk, hroom, hfit']
end Go.Proofs.Ytbicnkopmamnpaa
end
