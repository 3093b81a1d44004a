/- The walks of layer 1's laws. -/
import Derived.Test.YtfgkmgabldjpaaaOwn
import Derived.Test.YtfgkmgabldjpaaaTry
namespace Go.Proofs.Ytfgkmgabldjpaaa
open Go.RowKit

set_option maxRecDepth 100000 in
set_option maxHeartbeats 800000 in
theorem speaks_any (w : World) : Calls Try.prog 10 #[] w fun e w' => e = .returned (.bool true) ∧ Below w.heap.size w w' := by
  have hB : Has (w.alloc (.cells #[.int .u8 1, .int .u8 2] 5)) (some ⟨w.heap.size, 0, none⟩) (bytesV [1, 2]) := by
    refine has_of fun j u hu => ?_
    match j, hu with
    | 0, hu => simp [bytesV] at hu; subst hu; simp [allocC]
    | 1, hu => simp [bytesV] at hu; subst hu; simp [allocC]
    | j + 2, hu => simp [bytesV] at hu
  have HB := Lib.hid hB
  clear hB
  have hAC := allocC
  have hAF := allocF
  go_enter Try.func10, Try.ntmps10
  go_wp2_with (first
    | (go_at_call 23; refine (of_any _ _ _ _).mono ?_; rintro e w1 ⟨rfl, hb1⟩; have h1c := bc hb1; have h1f := bf hb1; have h1z := hb1.size; try simp only [World.size_alloc, World.size_drew] at h1z)
    | (go_at_call 33; refine (len_any _ _ _ _).mono ?_; rintro e w2 ⟨rfl, hb2⟩; have h2c := bc hb2; have h2f := bf hb2; have h2z := hb2.size; try simp only [World.size_alloc, World.size_drew] at h2z)
    | (go_at_call 26; refine (u16_ok _ _ _ 0 [1, 2] _ (HB.out.below (by repeat (first | exact brefl _ | assumption | refine balloc ?_ _ | refine bdrew ?_ _ | refine bdrew1 ?_ | refine bthen ?_ (by assumption) | refine Below.trans ?_ (by assumption) | (refine bset ?_ (by first | (simp; done) | (simp; omega)) _)))) rfl (by decide) (by decide) (by decide)).mono ?_; rintro e w3 ⟨rfl, hb3⟩; have h3c := bc hb3; have h3f := bf hb3; have h3z := hb3.size; try simp only [World.size_alloc, World.size_drew] at h3z)
    | (go_at_call 27; refine (u8_ok _ _ _ 1 [1, 2] _ (HB.out.below (by repeat (first | exact brefl _ | assumption | refine balloc ?_ _ | refine bdrew ?_ _ | refine bdrew1 ?_ | refine bthen ?_ (by assumption) | refine Below.trans ?_ (by assumption) | (refine bset ?_ (by first | (simp; done) | (simp; omega)) _)))) rfl (by decide) (by decide) (by decide)).mono ?_; rintro e w4 ⟨rfl, hb4⟩; have h4c := bc hb4; have h4f := bf hb4; have h4z := hb4.size; try simp only [World.size_alloc, World.size_drew] at h4z))
  go_ret
  exact ⟨rfl, (by repeat (first | exact brefl _ | assumption | refine balloc ?_ _ | refine bdrew ?_ _ | refine bdrew1 ?_ | refine bthen ?_ (by assumption) | refine Below.trans ?_ (by assumption) | (refine bset ?_ (by first | (simp; done) | (simp; omega)) _)))⟩

/-- All of a list are bytes. -/
def AllU8 (xs : List Value) : Prop := ∀ u ∈ xs, ∃ z : Int, u = .int .u8 z

theorem owns_u8 {w : World} {base n c : Nat} {a : Option Addr} {xs : List Value} (h : w.ownsRow base 5 1 (.slice a n c) n xs) (hx : AllU8 xs) (k : Nat) (hk : k < n) :
    ∃ g z, a = some ⟨g, 0, none⟩ ∧ base ≤ g ∧ w.cell? ⟨g, k, none⟩ = some (.int .u8 z) ∧ w.frozen? ⟨g, k, none⟩ = false ∧
      ∀ z', ∃ xs', (w.setCell ⟨g, k, none⟩ (.int .u8 z')).ownsRow base 5 1 (.slice a n c) n xs' ∧ AllU8 xs' := by
  have hlen : xs.length = n := by simpa using h.1
  rcases h.2 with ⟨_, rfl⟩ | ⟨g, cap, cur, hv, hg, _⟩
  · omega
  · injection hv with h1 h2 h3
    subst h1 h3
    obtain ⟨z, hz⟩ := hx _ (List.getElem_mem (show k < xs.length by omega))
    refine ⟨g, z, rfl, hg, ?_, h.frozenAt k, fun z' => ⟨_, (h.stored k _).1, ?_⟩⟩
    · rw [h.cellAt k (by omega), List.getElem?_eq_getElem (by omega), hz]
    · intro u hu
      rcases List.mem_or_eq_of_mem_set hu with hu | rfl
      · exact hx u hu
      · exact ⟨z', rfl⟩
theorem u8_bytes (bs : List UInt8) : AllU8 (bytesV bs) := by
  intro u hu
  simp only [bytesV, List.mem_map] at hu
  obtain ⟨b, _, rfl⟩ := hu
  exact ⟨_, rfl⟩
def OwnRel (B n : Nat) (a : Option Addr) (c : Nat) (w : World) (i : Value) (wr : World) : Prop :=
  ∃ k : Nat, k ≤ n ∧ i = .int .i64 k ∧ Below B w wr ∧ ∃ xs, wr.ownsRow B 5 1 (.slice a n c) n xs ∧ AllU8 xs

set_option maxRecDepth 100000 in
set_option maxHeartbeats 1600000 in
theorem viewOwn_walk (a : Option Addr) (n c : Nat) (bs : List UInt8) (w : World) (h : Has w a (bytesV bs)) (hl : bs.length = n) (hn : n ≤ c) (hc : c ≤ maxLen) (hA : a = none → c = 0) :
    Calls Try.prog 7 #[.slice a n c] w fun e w' => e = .returned (.bool true) ∧ Below w.heap.size w w' := by
  by_cases hbig : 1000 < n
  · clear h hl
    unfold maxLen at hc
    go_enter Try.func7, Try.ntmps7
    go_wp2_with (first | (go_at_call 10; refine (speaks_any _).mono ?_; rintro e w1 ⟨rfl, hb1⟩; have h1c := bc hb1; have h1f := bf hb1; have h1z := hb1.size; try simp only [World.size_alloc, World.size_drew] at h1z))
    go_ret
    exact ⟨rfl, (by repeat (first | exact brefl _ | assumption | refine balloc ?_ _ | refine bdrew ?_ _ | refine bdrew1 ?_ | refine bthen ?_ (by assumption) | refine Below.trans ?_ (by assumption) | (refine bset ?_ (by first | (simp; done) | (simp; omega)) _)))⟩
  have HH := Lib.hid h
  have HL := Lib.hid hl
  have HA := Lib.hid hA
  clear h hl hA
  go_enter Try.func7, Try.ntmps7
  go_wp2_with (first
    | (go_at_call 10; refine (speaks_any _).mono ?_; rintro e w1 ⟨rfl, hb1⟩; have h1c := bc hb1; have h1f := bf hb1; have h1z := hb1.size; try simp only [World.size_alloc, World.size_drew] at h1z)
    | (at_builtin; refine wpApp rfl _ _ 22 rfl w.heap.size 5 (.int .u8 0) 1 1 Try.underlying22 u8_info rfl (by decide) _ 0 [] rfl (owns_mono (World.ownsRow_lit w1 #[] 0 (Nat.le_refl _) (by decide) rfl) (by omega)) a n c (bytesV bs) rfl (by rw [bytesV_length, HL.out]; omega) (HH.out.below (by repeat (first | exact brefl _ | assumption | refine balloc ?_ _ | refine bdrew ?_ _ | refine bdrew1 ?_ | refine bthen ?_ (by assumption) | refine Below.trans ?_ (by assumption) | (refine bset ?_ (by first | (simp; done) | (simp; omega)) _)))) HA.out (bytesV_one bs) (by unfold maxLen; omega) (by omega) (by simp; omega) ?_; intro a2 c2 w2 hown2 k21 k22 k23 hb2 hg2; rw [Nat.zero_add] at *; have HO2 := Lib.hid hown2; have HA2 := Lib.hid k23; clear hown2 hg2 k23)
    | (go_at_call 23; refine (of_any _ _ _ _).mono ?_; rintro e w3 ⟨rfl, hb3⟩; have h3c := bc hb3; have h3f := bf hb3; have h3z := hb3.size; try simp only [World.size_alloc, World.size_drew] at h3z)
    | (go_at_call 24; refine (bytes_any _ _ _ bs _ ((has_of_owns HO2.out).below (by repeat (first | exact brefl _ | assumption | refine balloc ?_ _ | refine bdrew ?_ _ | refine bdrew1 ?_ | refine bthen ?_ (by assumption) | refine Below.trans ?_ (by assumption) | (refine bset ?_ (by first | (simp; done) | (simp; omega)) _)))) HL.out (by omega)).mono ?_; rintro e w4 ⟨a4, c4, rfl, hown4, k41, k42, k43, hb4⟩; have HO4 := Lib.hid hown4; have HA4 := Lib.hid k43; have hs4 := run_str (P := Try.prog) Try.underlying22 Try.underlying5 Try.underlying9 (c := c4) (has_of_owns hown4) HL.out; have hs4' := run_str (P := Try.prog) (w := w4) Try.underlying22 Try.underlying5 Try.underlying9 (c := c) (HH.out.below (by repeat (first | exact brefl _ | assumption | refine balloc ?_ _ | refine bdrew ?_ _ | refine bdrew1 ?_ | refine bthen ?_ (by assumption) | refine Below.trans ?_ (by assumption) | (refine bset ?_ (by first | (simp; done) | (simp; omega)) _)))) HL.out; clear hown4 k43))
  clear hs4 hs4'
  go_loopw [24] (OwnRel w3.heap.size n a4 c4 w4) (fun i _ => n - (intOf i).toNat)
  case atStart => exact ⟨0, Nat.zero_le _, rfl, Below.refl _ _, _, HO4.out, u8_bytes _⟩
  case round =>
    obtain ⟨k, hk, rfl, hbr, xs, hox, hux⟩ := hrel
    have HX := Lib.hid hox
    have HU := Lib.hid hux
    have HR := Lib.hid hbr
    clear hox hux hbr
    by_cases hlt : k < n
    · obtain ⟨g, z, ha4, hg, hcell, hfr, hst⟩ := owns_u8 HX.out HU.out k hlt
      have HS := Lib.hid hst
      clear hst
      subst ha4
      go_wp2
      go_roundw
      case rel =>
        obtain ⟨xs', h1, h2⟩ := HS.out (IntKind.u8.wrap (z + 1))
        exact ⟨k + 1, by omega, by go_num, HR.out.setCell hg _, xs', h1, h2⟩
      case measure => simp [intOf]; omega
    · have hb5 : Below w3.heap.size w3 wr := hb4.trans HR.out
      have hs2 := run_str (P := Try.prog) (w := wr) Try.underlying22 Try.underlying5 Try.underlying9 (c := c2) (bs := bs) ((has_of_owns HO2.out).below (by repeat (first | exact brefl _ | assumption | refine balloc ?_ _ | refine bdrew ?_ _ | refine bdrew1 ?_ | refine bthen ?_ (by assumption) | refine Below.trans ?_ (by assumption) | (refine bset ?_ (by first | (simp; done) | (simp; omega)) _)))) HL.out
      have hs0 := run_str (P := Try.prog) (w := wr) Try.underlying22 Try.underlying5 Try.underlying9 (c := c) (HH.out.below (by repeat (first | exact brefl _ | assumption | refine balloc ?_ _ | refine bdrew ?_ _ | refine bdrew1 ?_ | refine bthen ?_ (by assumption) | refine Below.trans ?_ (by assumption) | (refine bset ?_ (by first | (simp; done) | (simp; omega)) _)))) HL.out
      go_wp2
      go_ret
      exact ⟨rfl, (by repeat (first | exact brefl _ | assumption | refine balloc ?_ _ | refine bdrew ?_ _ | refine bdrew1 ?_ | refine bthen ?_ (by assumption) | refine Below.trans ?_ (by assumption) | (refine bset ?_ (by first | (simp; done) | (simp; omega)) _)))⟩
end Go.Proofs.Ytfgkmgabldjpaaa
