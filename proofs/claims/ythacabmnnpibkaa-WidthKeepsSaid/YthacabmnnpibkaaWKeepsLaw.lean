
/- The walk of WidthKeeps. Condition: as many advances as the slice says. -/
import Derived.Test.YthacabmnnpibkaaWLastLaw
import Derived.Test.YthacabmnnpibkaaLaw1
namespace Go.Proofs.Ythacabmnnpibkaa
open Go.RowKit Go.Lib

theorem WDone.set_old {base gw g e m : Nat} {T : List UInt8} {w : World} (h : WDone base gw g e m T w) (hb : base ≤ gw) {b o : Nat} (hp : b < base) (v : Value) : WDone base gw g e m T (w.setCell ⟨b, o, none⟩ v) := by
  obtain ⟨a1, c1, a2, c2, h0, h1, h2, h3⟩ := h
  refine ⟨a1, c1, a2, c2, (set_heap_other v (by omega)).trans h0, set_owns v h1 (fun he => ?_), set_owns v h2 (fun he => ?_), h3⟩
  · have := (h1.lt _ he.symm).1; omega
  · have := (h2.lt _ he.symm).1; omega
def SpoilRel (w w1 : World) (a : Option Addr) (n c base gw g e m : Nat) (T : List UInt8) (i : Value) (wr : World) : Prop :=
  ∃ k : Nat, k ≤ n ∧ i = .int .i64 (k : Nat) ∧ Below w.heap.size w wr ∧ w1.heap.size ≤ wr.heap.size ∧ WDone base gw g e m T wr ∧ ∃ xs, wr.ownsRow w.heap.size 5 1 (.slice a n c) n xs ∧ AllU8 xs

set_option maxRecDepth 100000 in
set_option maxHeartbeats 3200000 in
theorem widthKeeps_walk (a : Option Addr) (n c : Nat) (vs : List Nat) (spoil : Nat) (w : World) (h : Has w a (u16V vs)) (hl : vs.length = n) (hn : n ≤ c) (hc : c ≤ maxLen) (hv : ∀ s ∈ vs, s ≤ 65535) (_hs : spoil ≤ 255) :
    Calls Try.prog 6 #[.slice a n c, .int .u8 (spoil : Nat)] w fun r w' => r = .returned (.bool true) ∧ Below w.heap.size w w' := by
  have hAC := allocC
  have HH := Lib.hid h
  have HL := Lib.hid hl
  have HV := Lib.hid hv
  have hcm := hc
  unfold maxLen at hcm
  clear h hl hv
  by_cases h0 : n = 0
  · subst h0
    go_enter Try.func6, Try.ntmps6
    go_wp2_with (first | (go_at_call 13; refine (speaks_width _).mono ?_; rintro e w1 ⟨rfl, hb1⟩; have h1c := bc hb1; have h1f := bf hb1; have h1z := hb1.size; try simp only [World.size_alloc, World.size_drew] at h1z))
    go_ret
    exact ⟨rfl, (by repeat (first | exact brefl _ | assumption | refine balloc ?_ _ | refine bdrew ?_ _ | refine bdrew1 ?_ | refine bthen ?_ (by assumption) | refine Below.trans ?_ (by assumption) | (refine bset ?_ (by first | (simp; done) | (simp; omega)) _)))⟩
  by_cases h2 : 200 < n
  · have hz : ((n : Int) == 0) = false := by simp; omega
    go_enter Try.func6, Try.ntmps6
    go_wp2_with (first | (go_at_call 13; refine (speaks_width _).mono ?_; rintro e w1 ⟨rfl, hb1⟩; have h1c := bc hb1; have h1f := bf hb1; have h1z := hb1.size; try simp only [World.size_alloc, World.size_drew] at h1z))
    go_ret
    exact ⟨rfl, (by repeat (first | exact brefl _ | assumption | refine balloc ?_ _ | refine bdrew ?_ _ | refine bdrew1 ?_ | refine bthen ?_ (by assumption) | refine Below.trans ?_ (by assumption) | (refine bset ?_ (by first | (simp; done) | (simp; omega)) _)))⟩
  have hz : ((n : Int) == 0) = false := by simp; omega
  have hz2 : decide (200 < (n : Int)) = false := by simp; omega
  have hz3 : decide (200 < n) = false := by simp; omega
  go_enter Try.func6, Try.ntmps6
  go_wp2_with (first | (go_at_call 13; refine (speaks_width _).mono ?_; rintro e w1 ⟨rfl, hb1⟩; have h1c := bc hb1; have h1f := bf hb1; have h1z := hb1.size; try simp only [World.size_alloc, World.size_drew] at h1z))
  have HB1 := Lib.hid hb1
  clear h1c h1f
  refine (font_any a n c 2 vs w1 (HH.out.below hb1) HL.out hn hc HV.out (by omega) (by omega) (by decide)).mono ?_
  rintro r w2 ⟨a2, n2, c2, F, rfl, hF, hFl, k1, k2, k3, k4, hP, hb2⟩
  have HR := Lib.hid (wread_four a2 n2 c2 F (n + 2) 1000 n _ w2 (has_of_owns hF) hFl k1 k2 hP (by decide) (by omega) (by rw [List.length_append, rowsF_length, List.length_replicate]; omega))
  have HB2 := Lib.hid (HB1.out.trans (hb2.mono HB1.out.size))
  have HF := Lib.hid (owns_mono hF HB1.out.size)
  have hz12 := HB1.out.size
  clear hb1 hF hFl k3 hP hb2
  go_wp2_with fail
  refine HR.out.mono ?_
  rintro r w3 ⟨gw, rfl, hd, hgw, hb3⟩
  have HD := Lib.hid hd
  have HB3 := Lib.hid (HB2.out.trans (hb3.mono HB2.out.size))
  have HF3 := Lib.hid (owns_below HF.out hb3 (Nat.le_refl _))
  have HFB := Lib.hid (HF.out.lt)
  have hn5 : n + 2 ≤ 65535 := by omega
  have hb2l := HB2.out.size
  clear hd hb3 HR HF
  go_wp2_with fail
  go_loopw [32] (SpoilRel w w3 a2 n2 c2 w2.heap.size gw (n + 2) 1000 n (rowsF vs id n ++ List.replicate (2 * 2) 0)) (fun i _ => n2 - (intOf i).toNat)
  case atStart => exact ⟨0, Nat.zero_le _, rfl, HB3.out, Nat.le_refl _, HD.out, _, HF3.out, u8_bytes _⟩
  case round =>
    obtain ⟨k, hk, rfl, hbr, hzr, hdr, xs, hox, hux⟩ := hrel
    have HX := Lib.hid hox
    have HU := Lib.hid hux
    have HBR := Lib.hid hbr
    have HDR := Lib.hid hdr
    clear hox hux hbr hdr
    by_cases hlt : k < n2
    · have HLT := Lib.hid hlt
      obtain ⟨g, z, ha4, hg, hcell, hfr, hst⟩ := owns_u8 HX.out HU.out k hlt
      have HS := Lib.hid hst
      subst ha4
      have hg2 := (HFB.out g rfl).2
      clear hst
      go_wp2_with fail
      go_roundw
      case rel =>
        obtain ⟨xs', h1, h2⟩ := HS.out (spoil : Nat)
        exact ⟨k + 1, HLT.out, by go_num, HBR.out.setCell hg _, by simpa using hzr, HDR.out.set_old hgw hg2 _, xs', h1, h2⟩
      case measure => simp [intOf]; have := HLT.out; omega
    · obtain rfl : k = n2 := by omega
      rename World => W
      have HA := Lib.hid (fun (id : Int) (hid : -9223372036854775808 ≤ id ∧ id ≤ 9223372036854775807) W' (hb : Below W.heap.size W W') => adv_any w2.heap.size gw (n + 2) 1000 n _ id W' (HDR.out.below hb) (by omega) (by omega) hn5 hid)
      have HE := Lib.hid (fun (id : Int) (hid : -9223372036854775808 ≤ id ∧ id ≤ 9223372036854775807) W' (hb : Below W.heap.size W W') => bea_any w2.heap.size gw (n + 2) 1000 n _ id W' (HDR.out.below hb) (by omega) (by omega) hn5 hid)
      go_wp2_with fail
      go_loopw [42] (LastRel W n) (fun i _ => n - (intOf i).toNat)
      case atStart => exact ⟨0, Nat.zero_le _, rfl, Below.refl _ _⟩
      case round =>
        obtain ⟨i, hi, rfl, hbr⟩ := hrel
        have HB5 := Lib.hid hbr
        have HBX := Lib.hid (HBR.out.trans (hbr.mono HBR.out.size))
        clear hbr
        by_cases hlt2 : i < n
        · have HLT := Lib.hid hlt2
          have hai := fun W' hb => HA.out (i : Nat) (by omega) W' hb
          have hei := fun W' hb => HE.out (i : Nat) (by omega) W' hb
          rw [adv_rows vs id n (n + 2) i _ (by omega) (by omega) HV.out HL.out (fun j hj => by show j ≤ 65535; omega), show min i (n - 1) = i by omega] at hai
          rw [bea_rows vs id n (n + 2) i _ hlt2 (by omega) HV.out HL.out (by show i < 32768; omega)] at hei
          obtain ⟨b, o, rfl, hlb, hg⟩ := HH.out.get (by rw [u16V_length, HL.out]; omega)
          have hcell := (HBX.out.cell (p := ⟨b, o + i, none⟩) hlb).trans (hg _ _ (u16V_get vs i (by rw [HL.out]; omega)))
          have hbl : b < wr.heap.size := Nat.lt_of_lt_of_le hlb HBX.out.size
          have hs6 : vs.getD i 0 ≤ 65535 := HV.out _ (by rw [List.getD_eq_getElem?_getD, List.getElem?_eq_getElem (by rw [HL.out]; omega)]; exact List.getElem_mem _)
          have HAI := Lib.hid hai
          have HEI := Lib.hid hei
          clear hai hei hg
          simp only [id] at HEI
          generalize vs.getD i 0 = s at *
          go_wp2_with (first | (go_at_call 16; (with_reducible refine (HAI.out _ HB5.out).mono ?_); rintro e wa ⟨rfl, hba⟩; have hac := bc hba; have haf := bf hba; have haz := hba.size; try simp only [World.size_alloc, World.size_drew] at haz) | (go_at_call 17; (with_reducible refine (HEI.out _ (HB5.out.trans (hba.mono HB5.out.size))).mono ?_); rintro e w_ ⟨rfl, rfl⟩))
          go_roundw
          case rel => exact ⟨i + 1, HLT.out, by go_num, HB5.out.trans (Below.mono (show Below wr.heap.size wr _ from (by repeat (first | exact brefl _ | assumption | refine balloc ?_ _ | refine bdrew ?_ _ | refine bdrew1 ?_ | refine bthen ?_ (by assumption) | refine Below.trans ?_ (by assumption) | (refine bset ?_ (by first | (simp; done) | (simp; omega)) _)))) HB5.out.size)⟩
          case measure => simp [intOf]; have := HLT.out; omega
        · obtain rfl : i = n := by omega
          go_wp2_with fail
          go_ret
          exact ⟨rfl, HBX.out⟩
end Go.Proofs.Ythacabmnnpibkaa
