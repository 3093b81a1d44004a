
/- 'append' onto a row of the call's own, and where the new row lies; the document's Put likewise. Conditions: a slice of the call's own; a number from 0 on. The contract of head. Conditions: numbers from 0 on, below 65536. -/
import Derived.ArgAppend
import Derived.Test.YthepejljgolcoaaPut
import Derived.Test.YthepejljgolcoaaLAlike
import Derived.Test.YthepejljgolcoaaLRise
import Derived.Test.YthepejljgolcoaaKept
namespace Go.Proofs.Ythepejljgolcoaa
open Go.RowKit Go.Lib

theorem wpAppF {P : Program} {w : World} {ops : Array Oper} {rest : List Oper} {o : Oper} {a : Act} {Q : Exit → Act → World → Prop} (hgd : o.guard = none) (s x : Operand) (t : TypeId)
    (ho : o.op = .call { callee := .builtin .append, args := #[s, x], argTypes := #[t, t] })
    (base : Nat) (e : TypeId) (z : Value) (size bytes : Nat) (ht : P.underlying t = some (.slice e)) (hi : (P.info? e).map (fun i => (i.zero, i.size, i.bytes)) = some (some z, size, bytes)) (hzs : z.cells.size = size) (hsz : 0 < size)
    (ao : Option Addr) (n cap : Nat) (xs : List Value) (hs : a.eval s = .slice ao n cap) (hown : w.ownsRow base e size (.slice ao n cap) n xs)
    (p : Addr) (m c : Nat) (hm : 0 < m) (news : List Value) (hx : a.eval x = .slice (some p) m c) (hl : news.length = m * size) (hnews : Has w (some p) news) (h1 : ∀ u ∈ news, u.oneCell' = true)
    (h63 : n + m ≤ maxLen) (hbytes : (n + m) * bytes ≤ 140737488355328) (hbase : base ≤ w.heap.size)
    (h' : ∀ a' c' w', w'.ownsRow base e size (.slice a' (n + m) c') (n + m) (xs ++ news) → n + m ≤ c' → c' ≤ maxLen → (a' = none → c' = 0) → Below base w w' → w.grownBy w' (Value.slice ao n cap).ownBlock → (a' = ao ∨ ∀ p, a' = some p → w.heap.size ≤ p.block) → wpList P ops Q rest (a.put o.dst (.slice a' (n + m) c')) w') : wpList P ops Q (o :: rest) a w := by
  obtain ⟨i, hi, hz, hz1, hz2⟩ := info_parts hi
  have hnc : ∀ j u, news[j]? = some u → w.cell? (p.add j) = some u := fun j u hu => by
    obtain ⟨q, hq, hc⟩ := hnews j u hu
    cases hq
    exact hc
  obtain ⟨_, _, he, k1, k2, k3⟩ := owns_slice hown
  cases he
  by_cases hfit : n + m ≤ cap
  · rcases hown.2 with ⟨hv, hn0⟩ | ⟨g, cap', cur, hv, _⟩
    · cases hv
      omega
    · injection hv with e1 _ e3
      subst e1 e3
      exact wpList_append_fits w hgd s x t ho base e i size ht hi hz1 g n cap xs hs hown p m c news hx hl hnc h1 hfit fun w' g1 g2 =>
        h' _ _ w' g1 hfit k2 (fun h => by cases h) ((Below.refl base w).grown g2 hbase fun k hk => (hown.lt k (by cases hk; rfl)).1) g2 (.inl rfl)
  · have hlo : xs.length = n * size := hown.1
    refine wpList_append_grows w hgd s x t ho e i z size bytes ht hi hz hz1 hz2 hzs hsz ao n cap xs hs (fun h => ⟨by have := k3 h; omega, k3 h⟩) hlo (fun b hb j u hu => ?_) p m c news hx hl hnc h1 (by omega) h63 hbytes fun v' w' g1 g2 => ?_
    · obtain ⟨q, hq, hc⟩ := has_of_owns hown j u hu
      rw [hb] at hq
      cases hq
      exact hc
    · obtain ⟨a', c', rfl, r1, r2, r3⟩ := owns_slice g1
      have hb : Below w.heap.size w w' := (Below.refl _ w).grown g2 (Nat.le_refl _) (fun k hk => by cases hk)
      refine h' a' c' w' (owns_mono g1 hbase) r1 r2 r3 (hb.mono hbase) ⟨g2.os, g2.tape, g2.output, g2.size, fun k hk _ => g2.block k hk (by simp)⟩ (.inr fun q hq => ?_)
      rcases g1.2 with ⟨hv, _⟩ | ⟨g', cap', cur, hv, hg', _⟩
      · injection hv with _ e2 _; omega
      · injection hv with e1 _ _
        subst e1
        cases hq
        exact hg'
/-- Blocks but the row's own are as they were; the new row lies there, or in a new block. -/
def PutFar (W : World) (a : Option Addr) (wr : World) (a1 : Option Addr) : Prop :=
  W.heap.size ≤ wr.heap.size ∧ (∀ k, k < W.heap.size → (∀ p, a = some p → p.block ≠ k) → wr.heap[k]? = W.heap[k]?) ∧ (∀ p, a1 = some p → (∃ q, a = some q ∧ q.block = p.block) ∨ W.heap.size ≤ p.block)
theorem PutFar.refl (W : World) (a : Option Addr) : PutFar W a W a := ⟨Nat.le_refl _, fun _ _ _ => rfl, fun p hp => .inl ⟨p, hp, rfl⟩⟩
theorem PutFar.trans {W V U : World} {a b d : Option Addr} (h : PutFar W a V b) (k : PutFar V b U d) : PutFar W a U d := by
  refine ⟨Nat.le_trans h.1 k.1, fun x hx hne => ?_, fun p hp => ?_⟩
  · refine (k.2.1 x (by have := h.1; omega) fun q hq hb => ?_).trans (h.2.1 x hx hne)
    rcases h.2.2 q hq with ⟨r, hr, hr2⟩ | hge
    · exact hne r hr (by rw [hr2]; exact hb)
    · omega
  · rcases k.2.2 p hp with ⟨q, hq, hq2⟩ | hge
    · rcases h.2.2 q hq with ⟨r, hr, hr2⟩ | hge
      · exact .inl ⟨r, hr, by rw [hr2, hq2]⟩
      · exact .inr (by omega)
    · exact .inr (by have := h.1; omega)
theorem PutFar.below {W V : World} (a : Option Addr) (h : Below W.heap.size W V) : PutFar W a V a := ⟨h.size, fun k hk _ => h.block k hk, fun p hp => .inl ⟨p, hp, rfl⟩⟩
theorem PutFar.grown {W V : World} {ao a' : Option Addr} {n cap : Nat} (h : W.grownBy V (Value.slice ao n cap).ownBlock) (h2 : a' = ao ∨ ∀ p, a' = some p → W.heap.size ≤ p.block) : PutFar W ao V a' := by
  refine ⟨h.size, fun k hk hne => h.block k hk fun he => ?_, fun p hp => ?_⟩
  · cases ao with
    | none => simp [Value.ownBlock] at he
    | some q => simp only [Value.ownBlock, Option.some.injEq] at he; exact hne q rfl he.symm
  · rcases h2 with rfl | h2
    · exact .inl ⟨p, hp, rfl⟩
    · exact .inr (h2 p hp)
def PutR2 (W : World) (a0 : Option Addr) (base n : Nat) (xs : List UInt8) (z size : Nat) (b i : Value) (wr : World) : Prop :=
  ∃ s P a c, s ≤ size ∧ P ++ beN s z = beN size z ∧ P.length + s = size ∧ i = .int .i64 ((s : Int) - 1) ∧ b = .slice a (n + P.length) c ∧ wr.ownsRow base 5 1 b (n + P.length) (bytesV (xs ++ P)) ∧ n + P.length ≤ c ∧ c ≤ maxLen ∧ (a = none → c = 0) ∧ Below base W wr ∧ Kept W wr ∧ PutFar W a0 wr a
set_option maxRecDepth 100000 in
set_option maxHeartbeats 1600000 in
theorem put_far (base : Nat) (a : Option Addr) (n c z size : Nat) (xs : List UInt8) (w : World) (hown : w.ownsRow base 5 1 (.slice a n c) n (bytesV xs)) (hbase : base ≤ w.heap.size) (hz : z < 9223372036854775808) (hn : n ≤ 1000000000) (hs : size ≤ 8) :
    Calls Try.prog 35 #[.slice a n c, .int .i64 z, .int .i64 size] w fun e w' => ∃ a' c', e = .returned (.slice a' (n + size) c') ∧ w'.ownsRow base 5 1 (.slice a' (n + size) c') (n + size) (bytesV (xs ++ beN size z)) ∧ n + size ≤ c' ∧ c' ≤ maxLen ∧ (a' = none → c' = 0) ∧ Below base w w' ∧ Kept w w' ∧ PutFar w a w' a' := by
  obtain ⟨_, _, he, k1, k2, k3⟩ := owns_slice hown
  cases he
  have HO := Lib.hid hown
  have HA := Lib.hid k3
  clear hown k3
  go_enter Try.func35, Try.ntmps35
  go_wp2_with fail
  go_loopw [0, 7] (PutR2 w a base n xs z size) (fun _ i _ => ((intOf i) + 1).toNat)
  case atStart => exact ⟨size, [], a, c, Nat.le_refl _, rfl, by simp, by first | rfl | go_num, rfl, by simpa using HO.out, by simpa using k1, k2, HA.out, Below.refl _ _, Kept.refl _, PutFar.refl _ _⟩
  case round =>
    obtain ⟨s, P, a1, c1, hss, hP, hPl, rfl, rfl, hox, k11, k12, k13, hbr, hkp, hpf⟩ := hrel
    have HKP := Lib.hid hkp
    have HPF := Lib.hid hpf
    clear hpf
    have hwz := hkp.1
    clear hkp
    have HX := Lib.hid hox
    have HA1 := Lib.hid k13
    have HP := Lib.hid hP
    have HPL := Lib.hid hPl
    have HB := Lib.hid hbr
    clear hox k13 hP hPl hbr
    rcases s with _ | s
    · go_wp2
      go_ret
      have e0 : P = beN size z := by have := HP.out; simpa [beN] using this
      have hpl : P.length = size := by have := HPL.out; omega
      rw [hpl] at HX k11
      exact ⟨a1, c1, by rw [hpl]; rfl, by rw [← e0]; exact HX.out, k11, k12, HA1.out, HB.out, HKP.out, HPF.out⟩
    · have e1 : (((s + 1 : Nat) : Int) - 1) = (s : Int) := by omega
      rw [e1]
      go_wp2_with fail
      go_loopw [8, 9] (fun k j W => ∃ m : Nat, m ≤ s ∧ j = .int .i64 (m : Nat) ∧ k = .int .i64 ((z / 256 ^ m : Nat) : Int) ∧ W = wr) (fun _ j _ => s - (intOf j).toNat)
      case atStart => exact ⟨0, Nat.zero_le _, rfl, by simp, by first | rfl | trivial⟩
      case round =>
        obtain ⟨m, hm, rfl, rfl, rfl⟩ := hrel
        have hle : z / 256 ^ m ≤ z := Nat.div_le_self _ _
        by_cases hlt : m < s
        · have e2 : z / 256 ^ (m + 1) = z / 256 ^ m / 256 := by rw [Nat.pow_succ, Nat.div_div_eq_div_mul]
          have E2 := Lib.hid e2
          clear e2
          generalize z / 256 ^ m = q at *
          go_wp2
          go_roundw
          case rel => exact ⟨m + 1, by omega, by go_num, by rw [E2.out]; go_num, by first | rfl | trivial⟩
          case measure => first | (simp [intOf]; done) | (simp [intOf]; omega)
        · obtain rfl : m = s := by omega
          have e3 : bytesV [UInt8.ofNat (z / 256 ^ m)] = [.int .u8 ((z / 256 ^ m : Nat) % 256 : Int)] := by simp [bytesV, UInt8.toNat_ofNat']
          have E3 := Lib.hid e3
          have hbe : beN (m + 1) z = UInt8.ofNat (z / 256 ^ m) :: beN m z := rfl
          have HBE := Lib.hid hbe
          clear e3 hbe
          generalize z / 256 ^ m = q at *
          have hpm : P.length + (m + 1) = size := HPL.out
          go_wp2_with (at_builtin; refine wpAppF rfl _ _ 22 rfl base 5 (.int .u8 0) 1 1 Try.underlying22 u8_info rfl (by decide) a1 (n + P.length) c1 (bytesV (xs ++ P)) rfl (owns_below HX.out (balloc (brefl wr) _) (Nat.le_refl _)) ⟨wr.heap.size, 0, none⟩ 1 1 (by decide) (bytesV [UInt8.ofNat q]) rfl rfl (by rw [E3.out]; exact has_alloc _ _ _) (bytesV_one _) (by unfold maxLen; omega) (by omega) (by simp; omega) ?_; intro a6 c6 w6 hown6 k61 k62 k63 hb6 hg6 hf6; have HO6 := Lib.hid hown6; have HA6 := Lib.hid k63; have HB6 := Lib.hid hb6; have HG6 := Lib.hid hg6; have HF6 := Lib.hid hf6; clear hown6 k63 hb6 hg6 hf6)
          go_roundw
          case rel => exact ⟨m, P ++ [UInt8.ofNat q], a6, c6, by omega, by have := HP.out; rw [HBE.out] at this; simpa using this, by simp; omega, by first | rfl | go_num, by first | (simp; done) | (simp; rfl), by rw [← List.append_assoc, bytesV_append (xs ++ P), List.length_append, ← Nat.add_assoc]; exact HO6.out, by simp; omega, k62, HA6.out, HB.out.trans (((balloc (brefl wr) _).mono (by omega)).trans HB6.out), HKP.out.trans ((Kept.below (balloc (brefl wr) _)).trans (Kept.grown (owns_below HX.out (balloc (brefl wr) _) (Nat.le_refl _)) HG6.out)), HPF.out.trans ((PutFar.below _ (balloc (brefl wr) _)).trans (PutFar.grown HG6.out HF6.out))⟩
          case measure => first | (simp [intOf]; done) | (simp [intOf]; omega)

theorem put_z (base : Nat) (a : Option Addr) (n c z size : Nat) (y s : Int) (hy : y = (z : Nat)) (hsz : s = (size : Nat)) (xs : List UInt8) (w : World) (hown : w.ownsRow base 5 1 (.slice a n c) n (bytesV xs)) (hbase : base ≤ w.heap.size) (hz : z < 9223372036854775808) (hn : n ≤ 1000000000) (hs : size ≤ 8) :
    Calls Try.prog 35 #[.slice a n c, .int .i64 y, .int .i64 s] w fun e w' => ∃ a' c', e = .returned (.slice a' (n + size) c') ∧ w'.ownsRow base 5 1 (.slice a' (n + size) c') (n + size) (bytesV (xs ++ beN size z)) ∧ n + size ≤ c' ∧ c' ≤ maxLen ∧ (a' = none → c' = 0) ∧ Below base w w' ∧ Kept w w' ∧ PutFar w a w' a' := by
  subst hy hsz; exact put_far base a n c z size xs w hown hbase hz hn hs
def headB (f s m : Nat) : List UInt8 := beN 2 f ++ beN 2 s ++ beN 2 m ++ [0, 0, 0, 0, 0, 0]
set_option maxRecDepth 100000 in
set_option maxHeartbeats 1600000 in
theorem head_any (f s m : Nat) (zf zs zm : Int) (hzf : zf = (f : Nat)) (hzs : zs = (s : Nat)) (hzm : zm = (m : Nat)) (hf : f ≤ 65535) (hs : s ≤ 65535) (hm : m ≤ 65535) (w : World) :
    Calls Try.prog 36 #[.int .i64 zf, .int .i64 zs, .int .i64 zm] w fun e w' => ∃ a' c', e = .returned (.slice a' 12 c') ∧ w'.ownsRow w.heap.size 5 1 (.slice a' 12 c') 12 (bytesV (headB f s m)) ∧ 12 ≤ c' ∧ c' ≤ maxLen ∧ (a' = none → c' = 0) ∧ Below w.heap.size w w' := by
  have hAC := allocC
  have hAF := allocF
  subst hzf hzs hzm
  go_enter Try.func36, Try.ntmps36
  go_wp2_with fail
  refine (put_z w.heap.size none 0 0 f 2 (f : Int) 2 rfl rfl [] w ⟨rfl, .inl ⟨rfl, rfl⟩⟩ (Nat.le_refl _) (by omega) (by omega) (by omega)).mono ?_
  rintro e w1 ⟨a1, c1, rfl, h1, _, _, _, hb1, _, _⟩
  have H1 := Lib.hid h1
  have HB1 := Lib.hid hb1
  clear h1 hb1
  go_wp2_with fail
  refine (put_z w.heap.size a1 2 c1 s 2 (s : Int) 2 rfl rfl _ w1 H1.out HB1.out.size (by omega) (by omega) (by omega)).mono ?_
  rintro e w2 ⟨a2, c2, rfl, h2, _, _, _, hb2, _, _⟩
  have H2 := Lib.hid h2
  have HB2 := Lib.hid (HB1.out.trans hb2)
  clear h2 hb2
  go_wp2_with fail
  refine (put_z w.heap.size a2 4 c2 m 2 (m : Int) 2 rfl rfl _ w2 H2.out HB2.out.size (by omega) (by omega) (by omega)).mono ?_
  rintro e w3 ⟨a3, c3, rfl, h3, r1, r2, r3, hb3, _, _⟩
  have H3 := Lib.hid h3
  have HB3 := Lib.hid (HB2.out.trans hb3)
  have hz3 := HB3.out.size
  clear h3 hb3
  go_wp2_with (first | (at_builtin; refine wpAppL rfl _ _ 22 rfl w.heap.size 5 (.int .u8 0) 1 1 Try.underlying22 u8_info rfl (by decide) _ 6 _ rfl (owns_mono (owns_below H3.out (balloc (brefl w3) _) (Nat.le_refl _)) (Nat.le_refl _)) ⟨w3.heap.size, 0, none⟩ 6 6 (bytesV [0, 0, 0, 0, 0, 0]) rfl rfl (has_alloc _ _ _) (bytesV_one _) (by decide) (by decide) (by simp; omega) ?_; intro a4 c4 w4 hown4 t41 t42 t43 hb4 hg4; have HO4 := Lib.hid hown4; have HA4 := Lib.hid t43; have HB4 := Lib.hid hb4; clear hown4 hb4 hg4 t43; (try dsimp only [Act.put]); (try simp only [List.setIfInBounds_toArray, List.set_cons_succ, List.set_cons_zero])))
  go_ret
  refine ⟨a4, c4, rfl, ?_, t41, t42, HA4.out, (HB3.out.alloc hz3 _).trans HB4.out⟩
  have := HO4.out
  rw [← bytesV_append] at this
  exact this
end Go.Proofs.Ythepejljgolcoaa
