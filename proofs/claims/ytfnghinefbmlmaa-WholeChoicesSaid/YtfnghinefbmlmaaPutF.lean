
/- The document's Put, and where the new row lies; two rows of bytes that lie apart. Conditions: a slice of the call's own; a number from 0 on. -/
import Derived.ArgAppend
import Derived.Test.YtfnghinefbmlmaaPut
import Derived.Test.YtfnghinefbmlmaaKeptE
import Derived.Test.YtfnghinefbmlmaaZed
namespace Go.Proofs.Ytfnghinefbmlmaa
open Go.RowKit Go.Lib

/-- Blocks but the row's own are as they were; the new row lies there, or in a new block. -/
def PutFar (W : World) (a : Option Addr) (wr : World) (a1 : Option Addr) : Prop :=
  W.heap.size ≤ wr.heap.size ∧ (∀ k, k < W.heap.size → (∀ p, a = some p → p.block ≠ k) → wr.heap[k]? = W.heap[k]?) ∧ (∀ p, a1 = some p → (∃ q, a = some q ∧ q.block = p.block) ∨ W.heap.size ≤ p.block)
theorem PutFar.refl (W : World) (a : Option Addr) : PutFar W a W a := ⟨Nat.le_refl _, fun _ _ _ => rfl, fun p hp => .inl ⟨p, hp, rfl⟩⟩
theorem PutFar.trans {W V U : World} {a b d : Option Addr} (h : PutFar W a V b) (k : PutFar V b U d) : PutFar W a U d := by
  refine ⟨Nat.le_trans h.1 k.1, fun x hx hne => ?_, fun p hp => ?_⟩
  · refine (k.2.1 x (by have := h.1; omega) fun q hq hb => ?_).trans (h.2.1 x hx hne)
    rcases h.2.2 q hq with ⟨r, hr, hr2⟩ | hge
    · exact hne r hr (by rw [hr2]; exact hb)
    · omega
  · rcases k.2.2 p hp with ⟨q, hq, hq2⟩ | hge
    · rcases h.2.2 q hq with ⟨r, hr, hr2⟩ | hge
      · exact .inl ⟨r, hr, by rw [hr2, hq2]⟩
      · exact .inr (by omega)
    · exact .inr (by have := h.1; omega)
theorem PutFar.below {W V : World} (a : Option Addr) (h : Below W.heap.size W V) : PutFar W a V a := ⟨h.size, fun k hk _ => h.block k hk, fun p hp => .inl ⟨p, hp, rfl⟩⟩
theorem PutFar.grown {W V : World} {ao a' : Option Addr} {n cap : Nat} (h : W.grownBy V (Value.slice ao n cap).ownBlock) (h2 : a' = ao ∨ ∀ p, a' = some p → W.heap.size ≤ p.block) : PutFar W ao V a' := by
  refine ⟨h.size, fun k hk hne => h.block k hk fun he => ?_, fun p hp => ?_⟩
  · cases ao with
    | none => simp [Value.ownBlock] at he
    | some q => simp only [Value.ownBlock, Option.some.injEq] at he; exact hne q rfl he.symm
  · rcases h2 with rfl | h2
    · exact .inl ⟨p, hp, rfl⟩
    · exact .inr (h2 p hp)
def PutR2 (W : World) (a0 : Option Addr) (base n : Nat) (xs : List UInt8) (z size : Nat) (b i : Value) (wr : World) : Prop :=
  ∃ s P a c, s ≤ size ∧ P ++ beN s z = beN size z ∧ P.length + s = size ∧ i = .int .i64 ((s : Int) - 1) ∧ b = .slice a (n + P.length) c ∧ wr.ownsRow base 5 1 b (n + P.length) (bytesV (xs ++ P)) ∧ n + P.length ≤ c ∧ c ≤ maxLen ∧ (a = none → c = 0) ∧ Below base W wr ∧ Kept W wr ∧ PutFar W a0 wr a
set_option maxRecDepth 100000 in
set_option maxHeartbeats 1600000 in
theorem put_far (base : Nat) (a : Option Addr) (n c z size : Nat) (xs : List UInt8) (w : World) (hown : w.ownsRow base 5 1 (.slice a n c) n (bytesV xs)) (hbase : base ≤ w.heap.size) (hz : z < 9223372036854775808) (hn : n ≤ 1000000000) (hs : size ≤ 8) :
    Calls Try.prog 31 #[.slice a n c, .int .i64 z, .int .i64 size] w fun e w' => ∃ a' c', e = .returned (.slice a' (n + size) c') ∧ w'.ownsRow base 5 1 (.slice a' (n + size) c') (n + size) (bytesV (xs ++ beN size z)) ∧ n + size ≤ c' ∧ c' ≤ maxLen ∧ (a' = none → c' = 0) ∧ Below base w w' ∧ Kept w w' ∧ PutFar w a w' a' := by
  obtain ⟨_, _, he, k1, k2, k3⟩ := owns_slice hown
  cases he
  have HO := Lib.hid hown
  have HA := Lib.hid k3
  clear hown k3
  go_enter Try.func31, Try.ntmps31
  go_wp2_with fail
  go_loopw [0, 7] (PutR2 w a base n xs z size) (fun _ i _ => ((intOf i) + 1).toNat)
  case atStart => exact ⟨size, [], a, c, Nat.le_refl _, rfl, by simp, by first | rfl | go_num, rfl, by simpa using HO.out, by simpa using k1, k2, HA.out, Below.refl _ _, Kept.refl _, PutFar.refl _ _⟩
  case round =>
    obtain ⟨s, P, a1, c1, hss, hP, hPl, rfl, rfl, hox, k11, k12, k13, hbr, hkp, hpf⟩ := hrel
    have HKP := Lib.hid hkp
    have HPF := Lib.hid hpf
    clear hpf
    have hwz := hkp.1
    clear hkp
    have HX := Lib.hid hox
    have HA1 := Lib.hid k13
    have HP := Lib.hid hP
    have HPL := Lib.hid hPl
    have HB := Lib.hid hbr
    clear hox k13 hP hPl hbr
    rcases s with _ | s
    · go_wp2
      go_ret
      have e0 : P = beN size z := by have := HP.out; simpa [beN] using this
      have hpl : P.length = size := by have := HPL.out; omega
      rw [hpl] at HX k11
      exact ⟨a1, c1, by rw [hpl]; rfl, by rw [← e0]; exact HX.out, k11, k12, HA1.out, HB.out, HKP.out, HPF.out⟩
    · have e1 : (((s + 1 : Nat) : Int) - 1) = (s : Int) := by omega
      rw [e1]
      go_wp2_with fail
      go_loopw [8, 9] (fun k j W => ∃ m : Nat, m ≤ s ∧ j = .int .i64 (m : Nat) ∧ k = .int .i64 ((z / 256 ^ m : Nat) : Int) ∧ W = wr) (fun _ j _ => s - (intOf j).toNat)
      case atStart => exact ⟨0, Nat.zero_le _, rfl, by simp, by first | rfl | trivial⟩
      case round =>
        obtain ⟨m, hm, rfl, rfl, rfl⟩ := hrel
        have hle : z / 256 ^ m ≤ z := Nat.div_le_self _ _
        by_cases hlt : m < s
        · have e2 : z / 256 ^ (m + 1) = z / 256 ^ m / 256 := by rw [Nat.pow_succ, Nat.div_div_eq_div_mul]
          have E2 := Lib.hid e2
          clear e2
          generalize z / 256 ^ m = q at *
          go_wp2
          go_roundw
          case rel => exact ⟨m + 1, by omega, by go_num, by rw [E2.out]; go_num, by first | rfl | trivial⟩
          case measure => first | (simp [intOf]; done) | (simp [intOf]; omega)
        · obtain rfl : m = s := by omega
          have e3 : bytesV [UInt8.ofNat (z / 256 ^ m)] = [.int .u8 ((z / 256 ^ m : Nat) % 256 : Int)] := by simp [bytesV, UInt8.toNat_ofNat']
          have E3 := Lib.hid e3
          have hbe : beN (m + 1) z = UInt8.ofNat (z / 256 ^ m) :: beN m z := rfl
          have HBE := Lib.hid hbe
          clear e3 hbe
          generalize z / 256 ^ m = q at *
          have hpm : P.length + (m + 1) = size := HPL.out
          go_wp2_with (at_builtin; refine wpAppF rfl _ _ 32 rfl base 5 (.int .u8 0) 1 1 Try.underlying32 u8_info rfl (by decide) a1 (n + P.length) c1 (bytesV (xs ++ P)) rfl (owns_below HX.out (balloc (brefl wr) _) (Nat.le_refl _)) ⟨wr.heap.size, 0, none⟩ 1 1 (by decide) (bytesV [UInt8.ofNat q]) rfl rfl (by rw [E3.out]; exact has_alloc _ _ _) (bytesV_one _) (by unfold maxLen; omega) (by omega) (by simp; omega) ?_; intro a6 c6 w6 hown6 k61 k62 k63 hb6 hg6 hf6; have HO6 := Lib.hid hown6; have HA6 := Lib.hid k63; have HB6 := Lib.hid hb6; have HG6 := Lib.hid hg6; have HF6 := Lib.hid hf6; clear hown6 k63 hb6 hg6 hf6)
          go_roundw
          case rel => exact ⟨m, P ++ [UInt8.ofNat q], a6, c6, by omega, by have := HP.out; rw [HBE.out] at this; simpa using this, by simp; omega, by first | rfl | go_num, by first | (simp; done) | (simp; rfl), by rw [← List.append_assoc, bytesV_append (xs ++ P), List.length_append, ← Nat.add_assoc]; exact HO6.out, by simp; omega, k62, HA6.out, HB.out.trans (((balloc (brefl wr) _).mono (by omega)).trans HB6.out), HKP.out.trans ((Kept.below (balloc (brefl wr) _)).trans (Kept.grown (owns_below HX.out (balloc (brefl wr) _) (Nat.le_refl _)) HG6.out)), HPF.out.trans ((PutFar.below _ (balloc (brefl wr) _)).trans (PutFar.grown HG6.out HF6.out))⟩
          case measure => first | (simp [intOf]; done) | (simp [intOf]; omega)

theorem put_z (base : Nat) (a : Option Addr) (n c z size : Nat) (y s : Int) (hy : y = (z : Nat)) (hsz : s = (size : Nat)) (xs : List UInt8) (w : World) (hown : w.ownsRow base 5 1 (.slice a n c) n (bytesV xs)) (hbase : base ≤ w.heap.size) (hz : z < 9223372036854775808) (hn : n ≤ 1000000000) (hs : size ≤ 8) :
    Calls Try.prog 31 #[.slice a n c, .int .i64 y, .int .i64 s] w fun e w' => ∃ a' c', e = .returned (.slice a' (n + size) c') ∧ w'.ownsRow base 5 1 (.slice a' (n + size) c') (n + size) (bytesV (xs ++ beN size z)) ∧ n + size ≤ c' ∧ c' ≤ maxLen ∧ (a' = none → c' = 0) ∧ Below base w w' ∧ Kept w w' ∧ PutFar w a w' a' := by
  subst hy hsz; exact put_far base a n c z size xs w hown hbase hz hn hs
def FarA (a b : Option Addr) : Prop := ∀ p q, a = some p → b = some q → p.block ≠ q.block
theorem owns_lt {w : World} {base e size n cap : Nat} {a : Option Addr} {xs : List Value} (h : w.ownsRow base e size (.slice a n cap) n xs) : ∀ p, a = some p → base ≤ p.block ∧ p.block < w.heap.size := by
  intro p hp
  exact h.lt p.block (by rw [hp]; rfl)
theorem owns_far {W V : World} {a2 a6 a4 : Option Addr} {base e size n cap : Nat} {xs : List Value} (h : W.ownsRow base e size (.slice a4 n cap) n xs) (hp : PutFar W a2 V a6) (hf : FarA a2 a4) : V.ownsRow base e size (.slice a4 n cap) n xs := by
  refine ⟨h.1, ?_⟩
  rcases h.2 with q | ⟨q, cap, cur, hv, hq, hh, r⟩
  · exact .inl q
  · refine .inr ⟨q, cap, cur, hv, hq, ?_, r⟩
    rw [hp.2.1 q (Array.getElem?_eq_some_iff.1 hh).1 (fun p hpa => by
      injection hv with e1 _ _
      exact hf p _ hpa e1)]
    exact hh
theorem far_put {W V : World} {a2 a6 a4 : Option Addr} (hp : PutFar W a2 V a6) (hf : FarA a2 a4) (h4 : ∀ q, a4 = some q → q.block < W.heap.size) : FarA a6 a4 := by
  intro p q h1 h2
  rcases hp.2.2 p h1 with ⟨r, hr, hr2⟩ | hge
  · rw [← hr2]; exact hf r q hr h2
  · have := h4 q h2; omega
theorem far_symm {a b : Option Addr} (h : FarA a b) : FarA b a := fun p q h1 h2 he => h q p h2 h1 he.symm
theorem Kept.ownsE {w w' : World} (h : Kept w w') {base e size n : Nat} {v : Value} {xs : List Value} (ho : w.ownsRow base e size v n xs) (hne : e ≠ 5) : w'.ownsRow base e size v n xs := by
  refine ⟨ho.1, ?_⟩
  rcases ho.2 with g | ⟨g, cap, cur, hv, hg, hh, r⟩
  · exact .inl g
  · exact .inr ⟨g, cap, cur, hv, hg, by rw [h.2 g _ _ _ hh hne]; exact hh, r⟩
/-- Two rows of bytes, not in one block. -/
structure Two (b : Nat) (W : World) (a1 : Option Addr) (n1 c1 : Nat) (x1 : List UInt8) (a2 : Option Addr) (n2 c2 : Nat) (x2 : List UInt8) : Prop where
  o1 : W.ownsRow b 5 1 (.slice a1 n1 c1) n1 (bytesV x1)
  o2 : W.ownsRow b 5 1 (.slice a2 n2 c2) n2 (bytesV x2)
  f : FarA a1 a2
theorem Two.put1 {b : Nat} {W V : World} {a1 a2 a' : Option Addr} {n1 c1 n2 c2 n' c' : Nat} {x1 x2 x' : List UInt8} (h : Two b W a1 n1 c1 x1 a2 n2 c2 x2) (hp : PutFar W a1 V a') (ho : V.ownsRow b 5 1 (.slice a' n' c') n' (bytesV x')) : Two b V a' n' c' x' a2 n2 c2 x2 :=
  ⟨ho, owns_far h.o2 hp h.f, far_put hp h.f (fun q hq => (owns_lt h.o2 q hq).2)⟩
theorem Two.swap {b : Nat} {W : World} {a1 a2 : Option Addr} {n1 c1 n2 c2 : Nat} {x1 x2 : List UInt8} (h : Two b W a1 n1 c1 x1 a2 n2 c2 x2) : Two b W a2 n2 c2 x2 a1 n1 c1 x1 := ⟨h.o2, h.o1, far_symm h.f⟩
theorem Two.put2 {b : Nat} {W V : World} {a1 a2 a' : Option Addr} {n1 c1 n2 c2 n' c' : Nat} {x1 x2 x' : List UInt8} (h : Two b W a1 n1 c1 x1 a2 n2 c2 x2) (hp : PutFar W a2 V a') (ho : V.ownsRow b 5 1 (.slice a' n' c') n' (bytesV x')) : Two b V a1 n1 c1 x1 a' n' c' x' := (h.swap.put1 hp ho).swap
theorem Two.below {b : Nat} {W V : World} {a1 a2 : Option Addr} {n1 c1 n2 c2 : Nat} {x1 x2 : List UInt8} (h : Two b W a1 n1 c1 x1 a2 n2 c2 x2) (hb : Below W.heap.size W V) : Two b V a1 n1 c1 x1 a2 n2 c2 x2 := ⟨owns_below h.o1 hb (Nat.le_refl _), owns_below h.o2 hb (Nat.le_refl _), h.f⟩
end Go.Proofs.Ytfnghinefbmlmaa
