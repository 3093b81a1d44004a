
/- The walk of SeekOwn. Condition: as many bytes as the slice says. -/
import Derived.Test.YtgfhmpcfpjioaaaSSpeak
import Derived.Test.YtgfhmpcfpjioaaaLaw1
namespace Go.Proofs.Ytgfhmpcfpjioaaa
open Go.RowKit

/-- Rows of bytes, each owned. -/
def RowsU8 (B S : Nat) (vs : List Value) (w : World) : Prop :=
  ∀ (i : Nat) (v : Value), vs[i]? = some v → ∃ (a' : Option Addr) (c' : Nat), v = .slice a' S c' ∧ ∃ xs : List Value, w.ownsRow B 5 1 (.slice a' S c') S xs ∧ AllU8 xs
theorem RowsU8.below {B S : Nat} {vs : List Value} {w w' : World} (h : RowsU8 B S vs w) (hb : Below w.heap.size w w') : RowsU8 B S vs w' := fun i v hv => by
  obtain ⟨a', c', h1, xs, h2, h3⟩ := h i v hv
  exact ⟨a', c', h1, xs, owns_below h2 hb (Nat.le_refl _), h3⟩
theorem RowsU8.set {B S : Nat} {vs : List Value} {w : World} (h : RowsU8 B S vs w) (g k : Nat) (z : Int) : RowsU8 B S vs (w.setCell ⟨g, k, none⟩ (.int .u8 z)) := fun i v hv => by
  obtain ⟨a', c', rfl, xs, h2, h3⟩ := h i v hv
  refine ⟨a', c', rfl, ?_⟩
  by_cases hg : some g = (Value.slice a' S c').ownBlock
  · rcases h2.2 with ⟨hv, _⟩ | ⟨g', cap, cur, hv, _⟩
    · rw [hv] at hg; simp [Value.ownBlock] at hg
    · injection hv with e1 _ e3
      subst e1 e3
      simp only [Value.ownBlock, Option.some.injEq] at hg
      subst hg
      refine ⟨_, (h2.stored k (.int .u8 z)).1, fun u hu => ?_⟩
      rcases List.mem_or_eq_of_mem_set hu with hu | rfl
      · exact h3 u hu
      · exact ⟨z, rfl⟩
  · exact ⟨xs, set_owns _ h2 hg, h3⟩
def RowsAre (B : Nat) (al : Option Addr) (M cl S : Nat) (vs : List Value) (w : World) : Prop :=
  w.ownsRow B 22 1 (.slice al M cl) M vs ∧ RowsU8 B S vs w
theorem sread_own (a : Option Addr) (n c : Nat) (bs : List UInt8) (k need keys : Int) (w : World) (h : Has w a (bytesV bs)) (hl : bs.length = n) (hn : n ≤ c) (hc : c ≤ maxLen) (hk : -9223372036854775808 ≤ k ∧ k ≤ 9223372036854775807)
    (hne : -9223372036854775808 ≤ need ∧ need ≤ 9223372036854775807) (hke : -9223372036854775808 ≤ keys ∧ keys ≤ 9223372036854775807) :
    Calls Try.prog 15 #[.slice a n c, .int .i64 k, .int .i64 need, .int .i64 keys] w fun e w' => ∃ al M cl er S vs, e = .returned (.tuple #[.slice al M cl, er]) ∧ M ≤ 65535 ∧ S ≤ 65535 ∧ RowsAre w.heap.size al M cl S vs w' ∧ Below w.heap.size w w' := by
  refine (sread_any a n c bs k need keys w h hl hn hc hk hne hke).mono ?_
  rintro e w' ⟨(⟨_, rfl⟩ | ⟨_, _, rfl⟩ | ⟨_, j, g, vs, _, hok, rfl, ho, hr⟩), hb⟩
  · exact ⟨none, 0, 0, _, 0, [], rfl, by omega, by omega, ⟨World.ownsRow_nil _ _ _ _, fun i v hv => by simp at hv⟩, hb⟩
  · exact ⟨none, 0, 0, _, 0, [], rfl, by omega, by omega, ⟨World.ownsRow_nil _ _ _ _, fun i v hv => by simp at hv⟩, hb⟩
  · obtain ⟨h1, h2, _⟩ := stake_len (keys := keys.toNat) hok
    exact ⟨_, _, _, _, skS bs j, vs, rfl, h1, h2, ⟨ho, fun i v hv => by
      obtain ⟨a', c', h3, h4, _, _⟩ := hr i v hv
      exact ⟨a', c', h3, _, h4, u8_bytes _⟩⟩, hb⟩
theorem slice_cell {w : World} {B e M cl : Nat} {al : Option Addr} {vs : List Value} (h : w.ownsRow B e 1 (.slice al M cl) M vs) (k : Nat) (hk : k < M) : ∃ g v, al = some ⟨g, 0, none⟩ ∧ B ≤ g ∧ vs[k]? = some v ∧ w.cell? ⟨g, k, none⟩ = some v := by
  have hl : vs.length = M := by simpa using h.1
  rcases h.2 with ⟨hv, h0⟩ | ⟨g, cap, cur, hv, hg, _⟩
  · omega
  · injection hv with e1 _ e3
    subst e1 e3
    exact ⟨g, vs[k], rfl, hg, List.getElem?_eq_getElem (by omega), (h.cellAt k (by omega)).trans (List.getElem?_eq_getElem (by omega))⟩
def SOwnRel (w : World) (al : Option Addr) (M cl S : Nat) (vs : List Value) (i : Value) (wr : World) : Prop :=
  ∃ k : Nat, k ≤ M ∧ i = .int .i64 (k : Nat) ∧ RowsAre w.heap.size al M cl S vs wr ∧ Below w.heap.size w wr
def SOwnRel2 (w : World) (al : Option Addr) (M cl S : Nat) (vs : List Value) (i : Value) (wr : World) : Prop :=
  ∃ k : Nat, k ≤ S ∧ i = .int .i64 (k : Nat) ∧ RowsAre w.heap.size al M cl S vs wr ∧ Below w.heap.size w wr

set_option maxRecDepth 100000 in
set_option maxHeartbeats 3200000 in
theorem seekOwn_walk (a : Option Addr) (n c : Nat) (bs : List UInt8) (k : Int) (w : World) (h : Has w a (bytesV bs)) (hl : bs.length = n) (hn : n ≤ c) (hc : c ≤ maxLen) (hA : a = none → c = 0) (hk : -9223372036854775808 ≤ k ∧ k ≤ 9223372036854775807) :
    Calls Try.prog 4 #[.slice a n c, .int .i64 k] w fun e w' => e = .returned (.bool true) ∧ Below w.heap.size w w' := by
  by_cases hbig : 2000 < n
  · clear h hl
    unfold maxLen at hc
    go_enter Try.func4, Try.ntmps4
    go_wp2_with (first | (go_at_call 14; refine (speaks5_any _).mono ?_; rintro e w1 ⟨rfl, hb1⟩; have h1c := bc hb1; have h1f := bf hb1; have h1z := hb1.size; try simp only [World.size_alloc, World.size_drew] at h1z))
    go_ret
    exact ⟨rfl, (by repeat (first | exact brefl _ | assumption | refine balloc ?_ _ | refine bdrew ?_ _ | refine bdrew1 ?_ | refine bthen ?_ (by assumption) | refine Below.trans ?_ (by assumption) | (refine bset ?_ (by first | (simp; done) | (simp; omega)) _)))⟩
  have HH := Lib.hid h
  have HL := Lib.hid hl
  have HA := Lib.hid hA
  clear h hl hA
  go_enter Try.func4, Try.ntmps4
  go_wp2_with (first
    | (go_at_call 14; refine (speaks5_any _).mono ?_; rintro e w1 ⟨rfl, hb1⟩; have h1c := bc hb1; have h1f := bf hb1; have h1z := hb1.size; try simp only [World.size_alloc, World.size_drew] at h1z)
    | (at_builtin; refine wpApp rfl _ _ 22 rfl w.heap.size 5 (.int .u8 0) 1 1 Try.underlying22 u8_info rfl (by decide) _ 0 [] rfl (owns_mono (World.ownsRow_lit w1 #[] 0 (Nat.le_refl _) (by decide) rfl) (by omega)) a n c (bytesV bs) rfl (by rw [bytesV_length, HL.out]; omega) (HH.out.below (by repeat (first | exact brefl _ | assumption | refine balloc ?_ _ | refine bdrew ?_ _ | refine bdrew1 ?_ | refine bthen ?_ (by assumption) | refine Below.trans ?_ (by assumption) | (refine bset ?_ (by first | (simp; done) | (simp; omega)) _)))) HA.out (bytesV_one bs) (by unfold maxLen; omega) (by omega) (by simp; omega) ?_; intro a2 c2 w2 hown2 k21 k22 k23 hb2 hg2; rw [Nat.zero_add] at *; have HO2 := Lib.hid hown2; have HB2 := Lib.hid hb2; have hz2 := hg2.size; clear hown2 hg2 k23))
  have hO0 := HO2.out
  rw [List.nil_append] at hO0
  have HHO := Lib.hid (has_of_owns hO0)
  have hzw : w.heap.size ≤ w2.heap.size := by simp only [World.size_alloc] at hz2; omega
  have HBW := Lib.hid (show Below w.heap.size w w2 from (show Below w.heap.size w (w1.alloc (.cells #[] 5)) from (by repeat (first | exact brefl _ | assumption | refine balloc ?_ _ | refine bdrew ?_ _ | refine bdrew1 ?_ | refine bthen ?_ (by assumption) | refine Below.trans ?_ (by assumption) | (refine bset ?_ (by first | (simp; done) | (simp; omega)) _)))).trans HB2.out)
  clear hO0 HO2 HB2 hb1 h1c h1f hb2 hz2 h1z
  refine (sread_own a2 n c2 bs k 2 1 w2 HHO.out HL.out k21 k22 hk (by omega) (by omega)).mono ?_
  rintro e w3 ⟨al, M, cl, er, S, vs, rfl, hM, hS, hra, hb3⟩
  have HRA := Lib.hid hra
  have HB3 := Lib.hid hb3
  clear hra hb3
  go_wp2_with fail
  go_loopw [27] (SOwnRel w2 al M cl S vs) (fun i _ => M - (intOf i).toNat)
  case atStart => exact ⟨0, Nat.zero_le _, rfl, HRA.out, HB3.out⟩
  case round =>
    obtain ⟨i, hi, rfl, hra, hbr⟩ := hrel
    have HR := Lib.hid hra
    have HBR := Lib.hid hbr
    clear hra hbr
    by_cases hlt : i < M
    · obtain ⟨g, v, rfl, hg, hv, hcell⟩ := slice_cell HR.out.1 i hlt
      obtain ⟨a', c', rfl, _⟩ := HR.out.2 i v hv
      have HV := Lib.hid hv
      have HLT := Lib.hid hlt
      have hne : ¬ (M : Int) ≤ (i : Int) := by omega
      clear hv
      rename World => W1
      go_wp2_with fail
      clear hcell
      go_loopw [33] (SOwnRel2 w2 (some ⟨g, 0, none⟩) M cl S vs) (fun i _ => S - (intOf i).toNat)
      case atStart => exact ⟨0, Nat.zero_le _, rfl, HR.out, HBR.out⟩
      case round =>
        obtain ⟨j, hj, rfl, hra, hbr⟩ := hrel
        have HR2 := Lib.hid hra
        have HBR2 := Lib.hid hbr
        clear hra hbr
        by_cases hlt2 : j < S
        · obtain ⟨a3, c3, hv3, xs, ho3, hx3⟩ := HR2.out.2 i _ HV.out
          injection hv3 with e1 _ e3
          subst e1 e3
          obtain ⟨g3, z, rfl, hg3, hcell, hfr, _⟩ := owns_u8 ho3 hx3 j hlt2
          have HO3 := Lib.hid ho3
          have HX3 := Lib.hid hx3
          have HLT2 := Lib.hid hlt2
          clear ho3 hx3
          go_wp2_with fail
          go_roundw
          case rel => exact ⟨j + 1, HLT2.out, by go_num, ⟨owns_set_ty HO3.out HR2.out.1 (by decide) _, HR2.out.2.set _ _ _⟩, HBR2.out.setCell hg3 _⟩
          case measure => simp [intOf]; have := HLT2.out; omega
        · obtain rfl : j = S := by omega
          go_wp2_with fail
          go_roundw
          case rel => exact ⟨i + 1, HLT.out, by go_num, HR2.out, HBR2.out⟩
          case measure => simp [intOf]; have := HLT.out; omega
    · obtain rfl : i = M := by omega
      have HBX := Lib.hid (HBW.out.trans (HBR.out.mono hzw))
      have hs2 := run_str (P := Try.prog) (w := wr) Try.underlying22 Try.underlying5 Try.underlying9 (c := c2) (bs := bs) (HHO.out.below HBR.out) HL.out
      have hs0 := run_str (P := Try.prog) (w := wr) Try.underlying22 Try.underlying5 Try.underlying9 (c := c) (HH.out.below HBX.out) HL.out
      go_wp2_with fail
      go_ret
      exact ⟨rfl, HBX.out⟩
end Go.Proofs.Ytgfhmpcfpjioaaa
