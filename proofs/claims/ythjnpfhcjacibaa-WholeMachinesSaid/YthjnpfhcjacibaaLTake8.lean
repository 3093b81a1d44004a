
/- lookup.Take of the forms 8 and 10, of one that has too few bytes, and of others. Conditions: as many bytes as the slice says; a font's glyphs, numbers of two or four bytes. -/
import Derived.Test.YthjnpfhcjacibaaLSpec
namespace Go.Proofs.Ythjnpfhcjacibaa
open Go.RowKit Go.Lib

def TakeIs (bs : List UInt8) (glyphs size : Nat) (w : World) (e : Ending) (w' : World) : Prop :=
  ((∃ rs g, LkOk bs glyphs size rs ∧ e = .returned (.pointer (some ⟨g, 0, none⟩)) ∧ TabIs w.heap.size g (num bs 0 2) (tabR bs rs).1 (tabR bs rs).2 w') ∨ ((∀ rs, ¬ LkOk bs glyphs size rs) ∧ e = .panicked thrown)) ∧ Below w.heap.size w w'
theorem has_lt {w : World} {a : Option Addr} {bs : List UInt8} (h : Has w a (bytesV bs)) (hl : 0 < bs.length) : ∀ p, a = some p → p.block < w.heap.size := by
  intro p hp
  obtain ⟨q, hq, hc⟩ := h 0 _ (bytesV_get bs 0 hl)
  rw [hp] at hq
  cases hq
  have := cell_lt hc
  rwa [add_block] at this
theorem u16_y (a : Option Addr) (n c k : Nat) (z y : Int) (hz : z = (k : Nat)) (bs : List UInt8) (hy : ((num bs k 2 : Nat) : Int) = y) (w : World) (h : Has w a (bytesV bs)) (hl : bs.length = n) (hk : k + 2 ≤ n) (hn : n ≤ c) (hc : c ≤ maxLen) :
    Calls Try.prog 28 #[.agg #[.slice a n c], .int .i64 z] w fun e w' => e = .returned (.int .i64 y) ∧ Below w.heap.size w w' := by
  subst hy; exact u16_z a n c k z hz bs w h hl hk hn hc
theorem tab_new {B : Nat} (w : World) (fmt : Nat) (hB : B ≤ w.heap.size) (y : Int) (hy : ((fmt : Nat) : Int) = y) : TabIs B w.heap.size fmt [] [] (w.alloc (.cells #[.int .i64 y, .slice none 0 0, .slice none 0 0] 64)) := by
  subst hy
  exact ⟨none, 0, none, 0, by rw [heap_push, if_pos rfl]; rfl, ⟨rfl, .inl ⟨rfl, rfl⟩⟩, ⟨rfl, .inl ⟨rfl, rfl⟩⟩⟩
theorem tab_rowsT (bs : List UInt8) (f m at_ S : Nat) : (tabR bs (rowsT f m at_ S)).1 = trimPs f m ∧ (tabR bs (rowsT f m at_ S)).2 = numsA (bs.drop at_) S m := by
  unfold rowsT trimPs
  by_cases h : m = 0
  · subst h; simp [tabR, numsA]
  · simp only [if_neg h, tabR, List.foldl_cons, List.foldl_nil, stepR, numsR, if_pos, List.nil_append, List.length_nil]
    exact ⟨by simp, by rw [show f + m - 1 - f + 1 = m by omega]⟩
theorem ok_rowsT (bs : List UInt8) (f m at_ S : Nat) (ha : at_ ≤ bs.length) : okR bs (rowsT f m at_ S) ↔ m * S ≤ bs.length - at_ := by
  unfold rowsT
  by_cases h : m = 0
  · subst h; simp [okR]
  · rw [if_neg h]
    constructor
    · intro hx
      have := (hx 0 _ rfl).2 rfl
      simp only at this
      rw [show f + m - 1 - f + 1 = m by omega] at this
      omega
    · intro hx i r hr
      match i, hr with
      | 0, hr =>
        simp at hr
        subst hr
        refine ⟨(canAdd_nil _ _).2 (by show ((f : Nat) : Int) ≤ ((f + m - 1 : Nat) : Int); omega), fun _ => ?_⟩
        show at_ + (f + m - 1 - f + 1) * S ≤ bs.length
        rw [show f + m - 1 - f + 1 = m by omega]
        omega
      | i + 1, hr => simp at hr
theorem trim_at (bs : List UInt8) (k S : Nat) (hk : k ≤ bs.length) : TrimOk (bs.drop k) S ↔ k + 4 ≤ bs.length ∧ num bs k 2 + num bs (k + 2) 2 ≤ 65536 ∧ okR bs (rowsT (num bs k 2) (num bs (k + 2) 2) (k + 4) S) := by
  unfold TrimOk
  rw [num_drop, num_drop, List.length_drop, Nat.add_zero]
  constructor
  · rintro ⟨h1, h2, h3⟩
    exact ⟨by omega, h2, (ok_rowsT _ _ _ _ _ (by omega)).2 (by omega)⟩
  · rintro ⟨h1, h2, h3⟩
    have := (ok_rowsT _ _ _ _ _ (by omega)).1 h3
    exact ⟨by omega, h2, by omega⟩
set_option maxRecDepth 100000 in
set_option maxHeartbeats 3200000 in
theorem take8 (a : Option Addr) (n c : Nat) (bs : List UInt8) (glyphs size : Nat) (zg zs : Int) (hzg : zg = (glyphs : Nat)) (hzs : zs = (size : Nat)) (w : World) (hh : Has w a (bytesV bs)) (hbl : bs.length = n) (hnc : n ≤ c) (hc : c ≤ maxLen) (hS : size = 2 ∨ size = 4) (h0 : num bs 0 2 = 8) (h2 : 2 ≤ n) :
    Calls Try.prog 20 #[.agg #[.slice a n c], .int .i64 zg, .int .i64 zs] w (TakeIs bs glyphs size w) := by
  have hAC := allocC
  have hAF := allocF
  subst hzg hzs
  have hcm := hc
  unfold maxLen at hcm
  have HU := Lib.hid (fun W hw => u16_y a n c 0 0 8 rfl bs (by rw [h0]; rfl) W hw hbl h2 hnc hc)
  have HRE := Lib.hid (fun W => rest_z a n c 2 2 rfl W h2 hnc hc)
  have HH := Lib.hid hh
  have HH0 := Lib.hid h0
  have HTA := Lib.hid (fun (W : World) (g : Nat) (ht : TabIs w.heap.size g 8 [] [] W) (hb : Below w.heap.size w W) (hg : w.heap.size ≤ g) => trim_any w.heap.size g 8 size (size : Int) rfl (adv a c 2) (n - 2) (c - 2) (bs.drop 2) W ht hg (by omega) (by have := ((hh.below hb).adv c 2 (by rw [bytesV_length, hbl]; exact hnc)); rw [bytesV_drop] at this; exact this) (by rw [List.length_drop, hbl]) (by omega) (by unfold maxLen; omega) (advB (has_lt hh (by omega))))
  clear hh
  go_enter Try.func20, Try.ntmps20
  go_wp2_with (first | (go_at_call 28; (with_reducible refine (HU.out _ (HH.out.below (by exact (by repeat (first | with_reducible exact brefl _ | with_reducible assumption | (with_reducible refine bset ?_ (by first | (simp; done) | (simp; omega)) _) | with_reducible refine balloc ?_ _ | with_reducible refine bdrew ?_ _ | with_reducible refine bdrew1 ?_ | with_reducible refine bthen ?_ (by assumption) | with_reducible refine Below.trans ?_ (by assumption) | exact brefl _ | assumption | refine balloc ?_ _ | refine bdrew ?_ _ | refine bdrew1 ?_ | refine bthen ?_ (by assumption) | refine Below.trans ?_ (by assumption) | (refine bset ?_ (by first | (simp; done) | (simp; omega)) _)))))).mono ?_); rintro e w1 ⟨rfl, hb1⟩; have h1c := bc hb1; have h1f := bf hb1; have h1z := hb1.size; try simp only [World.size_alloc, World.size_drew] at h1z))
  have hT := tab_new (B := w.heap.size) w1 8 (by omega) 8 rfl
  have hbW : Below w.heap.size w (w1.alloc (.cells #[.int .i64 8, .slice none 0 0, .slice none 0 0] 64)) := (by repeat (first | with_reducible exact brefl _ | with_reducible assumption | (with_reducible refine bset ?_ (by first | (simp; done) | (simp; omega)) _) | with_reducible refine balloc ?_ _ | with_reducible refine bdrew ?_ _ | with_reducible refine bdrew1 ?_ | with_reducible refine bthen ?_ (by assumption) | with_reducible refine Below.trans ?_ (by assumption) | exact brefl _ | assumption | refine balloc ?_ _ | refine bdrew ?_ _ | refine bdrew1 ?_ | refine bthen ?_ (by assumption) | refine Below.trans ?_ (by assumption) | (refine bset ?_ (by first | (simp; done) | (simp; omega)) _)))
  have hg : w.heap.size ≤ w1.heap.size := by omega
  refine (HRE.out _).mono ?_
  rintro e w2 ⟨rfl, hb2⟩
  have HT2 := Lib.hid (HTA.out _ _ (hT.below hb2) (bthen hbW hb2) hg)
  have HB2 := Lib.hid (bthen hbW hb2)
  clear hT hbW hb2 h1c h1f hb1
  generalize w1.heap.size = g at *
  go_wp2_with fail
  refine HT2.out.mono ?_
  rintro e w3 ⟨(⟨hok, rfl, ht3⟩ | ⟨hno, rfl⟩), hk3⟩
  · rw [trim_at bs 2 size (by omega)] at hok
    obtain ⟨k1, k2, k3⟩ := hok
    have HOK := Lib.hid (show LkOk bs glyphs size (rowsT (num bs 2 2) (num bs 4 2) 6 size) from ⟨.eight k1 h0 k2, k3⟩)
    rw [num_drop, num_drop, List.drop_drop] at ht3
    have HT3 := Lib.hid ht3
    have HB3 := Lib.hid (HB2.out.trans hk3.below)
    clear hk3 ht3
    go_wp2_with fail
    go_ret
    obtain ⟨e1, e2⟩ := tab_rowsT bs (num bs 2 2) (num bs 4 2) 6 size
    exact ⟨.inl ⟨_, g, HOK.out, rfl, by rw [e1, e2, HH0.out]; exact HT3.out⟩, HB3.out⟩
  · rw [trim_at bs 2 size (by omega)] at hno
    refine ⟨rfl, .inr ⟨fun rs hrs => ?_, rfl⟩, HB2.out.trans hk3.below⟩
    obtain ⟨hr, hk⟩ := hrs
    cases hr with
    | eight k1 _ k2 => exact hno ⟨k1, k2, hk⟩
    | _ => omega
end Go.Proofs.Ythjnpfhcjacibaa
