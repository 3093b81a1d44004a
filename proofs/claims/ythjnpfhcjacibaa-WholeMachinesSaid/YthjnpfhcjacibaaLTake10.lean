
/- lookup.Take of the forms 0 and 10, of one that has too few bytes, and of others. Conditions: as many bytes as the slice says; a font's glyphs, numbers of two or four bytes. -/
import Derived.Test.YthjnpfhcjacibaaLTake8
namespace Go.Proofs.Ythjnpfhcjacibaa
open Go.RowKit Go.Lib

theorem fail_t0 (w : World) : Calls Try.prog 26 #[] w fun e w' => e = .panicked thrown ∧ w = w' := (fail_any w).mono fun _ _ h => ⟨h.1, h.2.symm⟩
set_option maxRecDepth 100000 in
set_option maxHeartbeats 3200000 in
theorem takeShort (a : Option Addr) (n c : Nat) (bs : List UInt8) (glyphs size : Nat) (zg zs : Int) (w : World) (hbl : bs.length = n) (hnc : n ≤ c) (hc : c ≤ maxLen) (h2 : ¬ 2 ≤ n) :
    Calls Try.prog 20 #[.agg #[.slice a n c], .int .i64 zg, .int .i64 zs] w (TakeIs bs glyphs size w) := by
  have hAC := allocC
  have hAF := allocF
  have HU := Lib.hid (fun W => u16_bad a n c 0 W (by omega) hnc hc)
  have HNO := Lib.hid (show ∀ rs, ¬ LkOk bs glyphs size rs from fun rs hx => by cases hx.rows <;> omega)
  go_enter Try.func20, Try.ntmps20
  go_wp2_with (first | (go_at_call 28; (with_reducible refine (HU.out _).mono ?_); rintro e w1 ⟨rfl, hb1⟩; have h1c := bc hb1; have h1f := bf hb1; have h1z := hb1.size; try simp only [World.size_alloc, World.size_drew] at h1z))
  have hb : Below w.heap.size w w1 := (by repeat (first | with_reducible exact brefl _ | with_reducible assumption | (with_reducible refine bset ?_ (by first | (simp; done) | (simp; omega)) _) | with_reducible refine balloc ?_ _ | with_reducible refine bdrew ?_ _ | with_reducible refine bdrew1 ?_ | with_reducible refine bthen ?_ (by assumption) | with_reducible refine Below.trans ?_ (by assumption) | exact brefl _ | assumption | refine balloc ?_ _ | refine bdrew ?_ _ | refine bdrew1 ?_ | refine bthen ?_ (by assumption) | refine Below.trans ?_ (by assumption) | (refine bset ?_ (by first | (simp; done) | (simp; omega)) _)))
  exact ⟨rfl, .inr ⟨HNO.out, rfl⟩, hb⟩
set_option maxRecDepth 100000 in
set_option maxHeartbeats 3200000 in
theorem takeX (a : Option Addr) (n c : Nat) (bs : List UInt8) (glyphs size : Nat) (zg zs : Int) (w : World) (hh : Has w a (bytesV bs)) (hbl : bs.length = n) (hnc : n ≤ c) (hc : c ≤ maxLen) (h2 : 2 ≤ n)
    (h0 : num bs 0 2 ≠ 0 ∧ num bs 0 2 ≠ 2 ∧ num bs 0 2 ≠ 4 ∧ num bs 0 2 ≠ 6 ∧ num bs 0 2 ≠ 8 ∧ num bs 0 2 ≠ 10) :
    Calls Try.prog 20 #[.agg #[.slice a n c], .int .i64 zg, .int .i64 zs] w (TakeIs bs glyphs size w) := by
  have hAC := allocC
  have hAF := allocF
  have HNO := Lib.hid (show ∀ rs, ¬ LkOk bs glyphs size rs from fun rs hx => by cases hx.rows <;> omega)
  obtain ⟨y, hy⟩ : ∃ y : Int, ((num bs 0 2 : Nat) : Int) = y := ⟨_, rfl⟩
  have HU := Lib.hid (fun W hw => u16_y a n c 0 0 y rfl bs hy W hw hbl h2 hnc hc)
  have e0 : (y == 0) = false := by rw [beq_eq_false_iff_ne]; omega
  have e2 : (y == 2) = false := by rw [beq_eq_false_iff_ne]; omega
  have e4 : (y == 4) = false := by rw [beq_eq_false_iff_ne]; omega
  have e6 : (y == 6) = false := by rw [beq_eq_false_iff_ne]; omega
  have e8 : (y == 8) = false := by rw [beq_eq_false_iff_ne]; omega
  have e10 : (y == 10) = false := by rw [beq_eq_false_iff_ne]; omega
  have HH := Lib.hid hh
  clear hh hy h0
  go_enter Try.func20, Try.ntmps20
  go_wp2_with (first | (go_at_call 28; (with_reducible refine (HU.out _ (HH.out.below (by exact (by repeat (first | with_reducible exact brefl _ | with_reducible assumption | (with_reducible refine bset ?_ (by first | (simp; done) | (simp; omega)) _) | with_reducible refine balloc ?_ _ | with_reducible refine bdrew ?_ _ | with_reducible refine bdrew1 ?_ | with_reducible refine bthen ?_ (by assumption) | with_reducible refine Below.trans ?_ (by assumption) | exact brefl _ | assumption | refine balloc ?_ _ | refine bdrew ?_ _ | refine bdrew1 ?_ | refine bthen ?_ (by assumption) | refine Below.trans ?_ (by assumption) | (refine bset ?_ (by first | (simp; done) | (simp; omega)) _)))))).mono ?_); rintro e w1 ⟨rfl, hb1⟩; have h1c := bc hb1; have h1f := bf hb1; have h1z := hb1.size; try simp only [World.size_alloc, World.size_drew] at h1z) | (go_at_call 26; refine (fail_t0 _).mono ?_; rintro e w_ ⟨rfl, rfl⟩))
  exact ⟨rfl, .inr ⟨HNO.out, rfl⟩, (by repeat (first | with_reducible exact brefl _ | with_reducible assumption | (with_reducible refine bset ?_ (by first | (simp; done) | (simp; omega)) _) | with_reducible refine balloc ?_ _ | with_reducible refine bdrew ?_ _ | with_reducible refine bdrew1 ?_ | with_reducible refine bthen ?_ (by assumption) | with_reducible refine Below.trans ?_ (by assumption) | exact brefl _ | assumption | refine balloc ?_ _ | refine bdrew ?_ _ | refine bdrew1 ?_ | refine bthen ?_ (by assumption) | refine Below.trans ?_ (by assumption) | (refine bset ?_ (by first | (simp; done) | (simp; omega)) _)))⟩
set_option maxRecDepth 100000 in
set_option maxHeartbeats 3200000 in
theorem take0 (a : Option Addr) (n c : Nat) (bs : List UInt8) (glyphs size : Nat) (zg zs : Int) (hzg : zg = (glyphs : Nat)) (hzs : zs = (size : Nat)) (w : World) (hh : Has w a (bytesV bs)) (hbl : bs.length = n) (hnc : n ≤ c) (hc : c ≤ maxLen) (hS : size = 2 ∨ size = 4) (hg1 : 1 ≤ glyphs) (hg2 : glyphs ≤ 65535) (h0 : num bs 0 2 = 0) (h2 : 2 ≤ n) :
    Calls Try.prog 20 #[.agg #[.slice a n c], .int .i64 zg, .int .i64 zs] w (TakeIs bs glyphs size w) := by
  have hAC := allocC
  have hAF := allocF
  subst hzg hzs
  have hcm := hc
  unfold maxLen at hcm
  have HU := Lib.hid (fun W hw => u16_y a n c 0 0 0 rfl bs (by rw [h0]; rfl) W hw hbl h2 hnc hc)
  have HRE := Lib.hid (fun W => rest_z a n c 2 2 rfl W h2 hnc hc)
  have HH := Lib.hid hh
  have HH0 := Lib.hid h0
  have HTA := Lib.hid (fun (W : World) (g : Nat) (ht : TabIs w.heap.size g 0 [] [] W) (hb : Below w.heap.size w W) (hg : w.heap.size ≤ g) => apart_any w.heap.size g 0 [] [] 0 (glyphs - 1) size 0 ((glyphs : Int) - 1) (size : Int) rfl (by omega) rfl (adv a c 2) (n - 2) (c - 2) (bs.drop 2) W ht hg (by simp) (by simp) (by omega) (by omega) (by have := ((hh.below hb).adv c 2 (by rw [bytesV_length, hbl]; exact hnc)); rw [bytesV_drop] at this; exact this) (by rw [List.length_drop, hbl]) (by omega) (by unfold maxLen; omega) (advB (has_lt hh (by omega))))
  have HAO := Lib.hid (show ApOk [] 0 (glyphs - 1) size (n - 2) ↔ okR bs [⟨0, glyphs - 1, 2, size, true⟩] from by
    have := ok_rowsT bs 0 glyphs 2 size (by omega)
    unfold rowsT at this
    rw [if_neg (by omega), Nat.zero_add] at this
    rw [this, hbl]
    unfold ApOk
    rw [canAdd_nil, show glyphs - 1 - 0 + 1 = glyphs by omega]
    exact ⟨fun hx => hx.2, fun hx => ⟨by omega, hx⟩⟩)
  clear hh
  go_enter Try.func20, Try.ntmps20
  go_wp2_with (first | (go_at_call 28; (with_reducible refine (HU.out _ (HH.out.below (by exact (by repeat (first | with_reducible exact brefl _ | with_reducible assumption | (with_reducible refine bset ?_ (by first | (simp; done) | (simp; omega)) _) | with_reducible refine balloc ?_ _ | with_reducible refine bdrew ?_ _ | with_reducible refine bdrew1 ?_ | with_reducible refine bthen ?_ (by assumption) | with_reducible refine Below.trans ?_ (by assumption) | exact brefl _ | assumption | refine balloc ?_ _ | refine bdrew ?_ _ | refine bdrew1 ?_ | refine bthen ?_ (by assumption) | refine Below.trans ?_ (by assumption) | (refine bset ?_ (by first | (simp; done) | (simp; omega)) _)))))).mono ?_); rintro e w1 ⟨rfl, hb1⟩; have h1c := bc hb1; have h1f := bf hb1; have h1z := hb1.size; try simp only [World.size_alloc, World.size_drew] at h1z))
  have hT := tab_new (B := w.heap.size) w1 0 (by omega) 0 rfl
  have hbW : Below w.heap.size w (w1.alloc (.cells #[.int .i64 0, .slice none 0 0, .slice none 0 0] 64)) := (by repeat (first | with_reducible exact brefl _ | with_reducible assumption | (with_reducible refine bset ?_ (by first | (simp; done) | (simp; omega)) _) | with_reducible refine balloc ?_ _ | with_reducible refine bdrew ?_ _ | with_reducible refine bdrew1 ?_ | with_reducible refine bthen ?_ (by assumption) | with_reducible refine Below.trans ?_ (by assumption) | exact brefl _ | assumption | refine balloc ?_ _ | refine bdrew ?_ _ | refine bdrew1 ?_ | refine bthen ?_ (by assumption) | refine Below.trans ?_ (by assumption) | (refine bset ?_ (by first | (simp; done) | (simp; omega)) _)))
  have hg : w.heap.size ≤ w1.heap.size := by omega
  refine (HRE.out _).mono ?_
  rintro e w2 ⟨rfl, hb2⟩
  have HT2 := Lib.hid (HTA.out _ _ (hT.below hb2) (bthen hbW hb2) hg)
  have HB2 := Lib.hid (bthen hbW hb2)
  clear hT hbW hb2 h1c h1f hb1
  generalize w1.heap.size = g at *
  go_wp2_with fail
  refine HT2.out.mono ?_
  rintro e w3 ⟨(⟨hok, rfl, ht3⟩ | ⟨hno, rfl⟩), hk3⟩
  · have HOK := Lib.hid (show LkOk bs glyphs size [⟨0, glyphs - 1, 2, size, true⟩] from ⟨.all (by omega) h0, HAO.out.1 hok⟩)
    have HT3 := Lib.hid ht3
    have HB3 := Lib.hid (HB2.out.trans hk3.below)
    clear hk3 ht3
    go_wp2_with fail
    go_ret
    exact ⟨.inl ⟨_, g, HOK.out, rfl, by rw [HH0.out]; exact HT3.out⟩, HB3.out⟩
  · refine ⟨rfl, .inr ⟨fun rs hrs => ?_, rfl⟩, HB2.out.trans hk3.below⟩
    obtain ⟨hr, hk⟩ := hrs
    cases hr with
    | all k1 _ => exact hno (HAO.out.2 hk)
    | _ => omega
set_option maxRecDepth 100000 in
set_option maxHeartbeats 3200000 in
theorem take10 (a : Option Addr) (n c : Nat) (bs : List UInt8) (glyphs size : Nat) (zg zs : Int) (hzg : zg = (glyphs : Nat)) (hzs : zs = (size : Nat)) (w : World) (hh : Has w a (bytesV bs)) (hbl : bs.length = n) (hnc : n ≤ c) (hc : c ≤ maxLen) (h0 : num bs 0 2 = 10) (h2 : 2 ≤ n) :
    Calls Try.prog 20 #[.agg #[.slice a n c], .int .i64 zg, .int .i64 zs] w (TakeIs bs glyphs size w) := by
  have hAC := allocC
  have hAF := allocF
  subst hzg hzs
  have hcm := hc
  unfold maxLen at hcm
  have HU := Lib.hid (fun W hw => u16_y a n c 0 0 10 rfl bs (by rw [h0]; rfl) W hw hbl h2 hnc hc)
  have HH := Lib.hid hh
  have HH0 := Lib.hid h0
  by_cases h4 : 4 ≤ n
  case neg =>
    have HU2 := Lib.hid (fun W => u16_bad a n c 2 W (by omega) hnc hc)
    have HNO := Lib.hid (show ∀ rs, ¬ LkOk bs glyphs size rs from fun rs hx => by cases hx.rows <;> omega)
    clear hh
    go_enter Try.func20, Try.ntmps20
    go_wp2_with (first | (go_at_call 28; (with_reducible refine (HU.out _ (HH.out.below (by exact (by repeat (first | with_reducible exact brefl _ | with_reducible assumption | (with_reducible refine bset ?_ (by first | (simp; done) | (simp; omega)) _) | with_reducible refine balloc ?_ _ | with_reducible refine bdrew ?_ _ | with_reducible refine bdrew1 ?_ | with_reducible refine bthen ?_ (by assumption) | with_reducible refine Below.trans ?_ (by assumption) | exact brefl _ | assumption | refine balloc ?_ _ | refine bdrew ?_ _ | refine bdrew1 ?_ | refine bthen ?_ (by assumption) | refine Below.trans ?_ (by assumption) | (refine bset ?_ (by first | (simp; done) | (simp; omega)) _)))))).mono ?_); rintro e w1 ⟨rfl, hb1⟩; have h1c := bc hb1; have h1f := bf hb1; have h1z := hb1.size; try simp only [World.size_alloc, World.size_drew] at h1z) | (go_at_call 28; (with_reducible refine (HU2.out _).mono ?_); rintro e w2 ⟨rfl, hb2⟩; have h2c := bc hb2; have h2f := bf hb2; have h2z := hb2.size; try simp only [World.size_alloc, World.size_drew] at h2z))
    exact ⟨rfl, .inr ⟨HNO.out, rfl⟩, (by repeat (first | with_reducible exact brefl _ | with_reducible assumption | (with_reducible refine bset ?_ (by first | (simp; done) | (simp; omega)) _) | with_reducible refine balloc ?_ _ | with_reducible refine bdrew ?_ _ | with_reducible refine bdrew1 ?_ | with_reducible refine bthen ?_ (by assumption) | with_reducible refine Below.trans ?_ (by assumption) | exact brefl _ | assumption | refine balloc ?_ _ | refine bdrew ?_ _ | refine bdrew1 ?_ | refine bthen ?_ (by assumption) | refine Below.trans ?_ (by assumption) | (refine bset ?_ (by first | (simp; done) | (simp; omega)) _)))⟩
  have HRE := Lib.hid (fun W => rest_z a n c 4 4 rfl W h4 hnc hc)
  by_cases hu : num bs 2 2 = 1 ∨ num bs 2 2 = 2 ∨ num bs 2 2 = 4
  case neg =>
    obtain ⟨y, hy⟩ : ∃ y : Int, ((num bs 2 2 : Nat) : Int) = y := ⟨_, rfl⟩
    have HU2 := Lib.hid (fun W hw => u16_y a n c 2 2 y rfl bs hy W hw hbl (by omega) hnc hc)
    have e1 : (y == 1) = false := by rw [beq_eq_false_iff_ne]; omega
    have e2 : (y == 2) = false := by rw [beq_eq_false_iff_ne]; omega
    have e4 : (y == 4) = false := by rw [beq_eq_false_iff_ne]; omega
    have HNO := Lib.hid (show ∀ rs, ¬ LkOk bs glyphs size rs from fun rs hx => by cases hx.rows <;> omega)
    clear hh hy hu
    go_enter Try.func20, Try.ntmps20
    go_wp2_with (first | (go_at_call 28; (with_reducible refine (HU.out _ (HH.out.below (by exact (by repeat (first | with_reducible exact brefl _ | with_reducible assumption | (with_reducible refine bset ?_ (by first | (simp; done) | (simp; omega)) _) | with_reducible refine balloc ?_ _ | with_reducible refine bdrew ?_ _ | with_reducible refine bdrew1 ?_ | with_reducible refine bthen ?_ (by assumption) | with_reducible refine Below.trans ?_ (by assumption) | exact brefl _ | assumption | refine balloc ?_ _ | refine bdrew ?_ _ | refine bdrew1 ?_ | refine bthen ?_ (by assumption) | refine Below.trans ?_ (by assumption) | (refine bset ?_ (by first | (simp; done) | (simp; omega)) _)))))).mono ?_); rintro e w1 ⟨rfl, hb1⟩; have h1c := bc hb1; have h1f := bf hb1; have h1z := hb1.size; try simp only [World.size_alloc, World.size_drew] at h1z) | (go_at_call 28; (with_reducible refine (HU2.out _ (HH.out.below (by exact (by repeat (first | with_reducible exact brefl _ | with_reducible assumption | (with_reducible refine bset ?_ (by first | (simp; done) | (simp; omega)) _) | with_reducible refine balloc ?_ _ | with_reducible refine bdrew ?_ _ | with_reducible refine bdrew1 ?_ | with_reducible refine bthen ?_ (by assumption) | with_reducible refine Below.trans ?_ (by assumption) | exact brefl _ | assumption | refine balloc ?_ _ | refine bdrew ?_ _ | refine bdrew1 ?_ | refine bthen ?_ (by assumption) | refine Below.trans ?_ (by assumption) | (refine bset ?_ (by first | (simp; done) | (simp; omega)) _)))))).mono ?_); rintro e w2 ⟨rfl, hb2⟩; have h2c := bc hb2; have h2f := bf hb2; have h2z := hb2.size; try simp only [World.size_alloc, World.size_drew] at h2z) | (go_at_call 18; refine (need_f _ (by first | rfl | (simp; omega)) _).mono ?_; rintro e w_ ⟨rfl, rfl⟩))
    exact ⟨rfl, .inr ⟨HNO.out, rfl⟩, (by repeat (first | with_reducible exact brefl _ | with_reducible assumption | (with_reducible refine bset ?_ (by first | (simp; done) | (simp; omega)) _) | with_reducible refine balloc ?_ _ | with_reducible refine bdrew ?_ _ | with_reducible refine bdrew1 ?_ | with_reducible refine bthen ?_ (by assumption) | with_reducible refine Below.trans ?_ (by assumption) | exact brefl _ | assumption | refine balloc ?_ _ | refine bdrew ?_ _ | refine bdrew1 ?_ | refine bthen ?_ (by assumption) | refine Below.trans ?_ (by assumption) | (refine bset ?_ (by first | (simp; done) | (simp; omega)) _)))⟩
  obtain hu | hu | hu := hu
  · have HU2 := Lib.hid (fun W hw => u16_y a n c 2 2 1 rfl bs (by rw [hu]; rfl) W hw hbl (by omega) hnc hc)
    have HTA := Lib.hid (fun (W : World) (g : Nat) (ht : TabIs w.heap.size g 10 [] [] W) (hb : Below w.heap.size w W) (hg : w.heap.size ≤ g) => trim_any w.heap.size g 10 1 1 rfl (adv a c 4) (n - 4) (c - 4) (bs.drop 4) W ht hg (by omega) (by have := ((hh.below hb).adv c 4 (by rw [bytesV_length, hbl]; exact hnc)); rw [bytesV_drop] at this; exact this) (by rw [List.length_drop, hbl]) (by omega) (by unfold maxLen; omega) (advB (has_lt hh (by omega))))
    have HU9 := Lib.hid hu
    clear hh hu
    go_enter Try.func20, Try.ntmps20
    go_wp2_with (first | (go_at_call 28; (with_reducible refine (HU.out _ (HH.out.below (by exact (by repeat (first | with_reducible exact brefl _ | with_reducible assumption | (with_reducible refine bset ?_ (by first | (simp; done) | (simp; omega)) _) | with_reducible refine balloc ?_ _ | with_reducible refine bdrew ?_ _ | with_reducible refine bdrew1 ?_ | with_reducible refine bthen ?_ (by assumption) | with_reducible refine Below.trans ?_ (by assumption) | exact brefl _ | assumption | refine balloc ?_ _ | refine bdrew ?_ _ | refine bdrew1 ?_ | refine bthen ?_ (by assumption) | refine Below.trans ?_ (by assumption) | (refine bset ?_ (by first | (simp; done) | (simp; omega)) _)))))).mono ?_); rintro e w1 ⟨rfl, hb1⟩; have h1c := bc hb1; have h1f := bf hb1; have h1z := hb1.size; try simp only [World.size_alloc, World.size_drew] at h1z))
    have hT := tab_new (B := w.heap.size) w1 10 (by omega) 10 rfl
    have hbW : Below w.heap.size w (w1.alloc (.cells #[.int .i64 10, .slice none 0 0, .slice none 0 0] 64)) := (by repeat (first | with_reducible exact brefl _ | with_reducible assumption | (with_reducible refine bset ?_ (by first | (simp; done) | (simp; omega)) _) | with_reducible refine balloc ?_ _ | with_reducible refine bdrew ?_ _ | with_reducible refine bdrew1 ?_ | with_reducible refine bthen ?_ (by assumption) | with_reducible refine Below.trans ?_ (by assumption) | exact brefl _ | assumption | refine balloc ?_ _ | refine bdrew ?_ _ | refine bdrew1 ?_ | refine bthen ?_ (by assumption) | refine Below.trans ?_ (by assumption) | (refine bset ?_ (by first | (simp; done) | (simp; omega)) _)))
    have hg : w.heap.size ≤ w1.heap.size := by omega
    refine (HU2.out _ (HH.out.below hbW)).mono ?_
    rintro e w2 ⟨rfl, hb2⟩
    have HT2 := Lib.hid (hT.below hb2)
    have HB2 := Lib.hid (bthen hbW hb2)
    have c3 : w2.cell? ⟨w.heap.size, 0, none⟩ = some (.slice a n c) := (hb2.cell (p := ⟨w.heap.size, 0, none⟩) (by show w.heap.size < _; simp; omega)).trans (by rw [hAC, if_neg (by omega), h1c, if_pos (by simp)]; simp [hAC])
    have hl3 : w.heap.size < w2.heap.size := by have := hb2.size; simp only [World.size_alloc] at this; omega
    clear hT hbW hb2 h1c h1f hb1
    generalize w1.heap.size = g at *
    go_wp2_with (first | (go_at_call 18; refine (need_t _ (by first | rfl | (simp; omega)) _).mono ?_; rintro e w_ ⟨rfl, rfl⟩) | (go_at_call 21; (with_reducible refine (HRE.out _).mono ?_); rintro e w4 ⟨rfl, hb4⟩; have h4c := bc hb4; have h4f := bf hb4; have h4z := hb4.size; try simp only [World.size_alloc, World.size_drew] at h4z))
    have HT4 := Lib.hid (HTA.out _ _ (HT2.out.below hb4) (bthen HB2.out hb4) hg)
    have HB4 := Lib.hid (bthen HB2.out hb4)
    refine HT4.out.mono ?_
    rintro e w5 ⟨(⟨hok, rfl, ht3⟩ | ⟨hno, rfl⟩), hk3⟩
    · rw [trim_at bs 4 1 (by omega)] at hok
      obtain ⟨k1, k2, k3⟩ := hok
      have HOK := Lib.hid (show LkOk bs glyphs size (rowsT (num bs 4 2) (num bs 6 2) 8 (num bs 2 2)) from ⟨.ten k1 h0 (by rw [HU9.out]; decide) k2, by rw [HU9.out]; exact k3⟩)
      rw [num_drop, num_drop, List.drop_drop] at ht3
      have HT3 := Lib.hid ht3
      have HB3 := Lib.hid (HB4.out.trans hk3.below)
      clear hk3 ht3
      go_wp2_with fail
      go_ret
      obtain ⟨e1, e2⟩ := tab_rowsT bs (num bs 4 2) (num bs 6 2) 8 (num bs 2 2)
      exact ⟨.inl ⟨_, g, HOK.out, rfl, by rw [e1, e2, HH0.out, HU9.out]; exact HT3.out⟩, HB3.out⟩
    · rw [trim_at bs 4 1 (by omega)] at hno
      refine ⟨rfl, .inr ⟨fun rs hrs => ?_, rfl⟩, HB4.out.trans hk3.below⟩
      obtain ⟨hr, hk⟩ := hrs
      cases hr with
      | ten k1 _ _ k2 => rw [HU9.out] at hk; exact hno ⟨k1, k2, hk⟩
      | _ => omega
  · have HU2 := Lib.hid (fun W hw => u16_y a n c 2 2 2 rfl bs (by rw [hu]; rfl) W hw hbl (by omega) hnc hc)
    have HTA := Lib.hid (fun (W : World) (g : Nat) (ht : TabIs w.heap.size g 10 [] [] W) (hb : Below w.heap.size w W) (hg : w.heap.size ≤ g) => trim_any w.heap.size g 10 2 2 rfl (adv a c 4) (n - 4) (c - 4) (bs.drop 4) W ht hg (by omega) (by have := ((hh.below hb).adv c 4 (by rw [bytesV_length, hbl]; exact hnc)); rw [bytesV_drop] at this; exact this) (by rw [List.length_drop, hbl]) (by omega) (by unfold maxLen; omega) (advB (has_lt hh (by omega))))
    have HU9 := Lib.hid hu
    clear hh hu
    go_enter Try.func20, Try.ntmps20
    go_wp2_with (first | (go_at_call 28; (with_reducible refine (HU.out _ (HH.out.below (by exact (by repeat (first | with_reducible exact brefl _ | with_reducible assumption | (with_reducible refine bset ?_ (by first | (simp; done) | (simp; omega)) _) | with_reducible refine balloc ?_ _ | with_reducible refine bdrew ?_ _ | with_reducible refine bdrew1 ?_ | with_reducible refine bthen ?_ (by assumption) | with_reducible refine Below.trans ?_ (by assumption) | exact brefl _ | assumption | refine balloc ?_ _ | refine bdrew ?_ _ | refine bdrew1 ?_ | refine bthen ?_ (by assumption) | refine Below.trans ?_ (by assumption) | (refine bset ?_ (by first | (simp; done) | (simp; omega)) _)))))).mono ?_); rintro e w1 ⟨rfl, hb1⟩; have h1c := bc hb1; have h1f := bf hb1; have h1z := hb1.size; try simp only [World.size_alloc, World.size_drew] at h1z))
    have hT := tab_new (B := w.heap.size) w1 10 (by omega) 10 rfl
    have hbW : Below w.heap.size w (w1.alloc (.cells #[.int .i64 10, .slice none 0 0, .slice none 0 0] 64)) := (by repeat (first | with_reducible exact brefl _ | with_reducible assumption | (with_reducible refine bset ?_ (by first | (simp; done) | (simp; omega)) _) | with_reducible refine balloc ?_ _ | with_reducible refine bdrew ?_ _ | with_reducible refine bdrew1 ?_ | with_reducible refine bthen ?_ (by assumption) | with_reducible refine Below.trans ?_ (by assumption) | exact brefl _ | assumption | refine balloc ?_ _ | refine bdrew ?_ _ | refine bdrew1 ?_ | refine bthen ?_ (by assumption) | refine Below.trans ?_ (by assumption) | (refine bset ?_ (by first | (simp; done) | (simp; omega)) _)))
    have hg : w.heap.size ≤ w1.heap.size := by omega
    refine (HU2.out _ (HH.out.below hbW)).mono ?_
    rintro e w2 ⟨rfl, hb2⟩
    have HT2 := Lib.hid (hT.below hb2)
    have HB2 := Lib.hid (bthen hbW hb2)
    have c3 : w2.cell? ⟨w.heap.size, 0, none⟩ = some (.slice a n c) := (hb2.cell (p := ⟨w.heap.size, 0, none⟩) (by show w.heap.size < _; simp; omega)).trans (by rw [hAC, if_neg (by omega), h1c, if_pos (by simp)]; simp [hAC])
    have hl3 : w.heap.size < w2.heap.size := by have := hb2.size; simp only [World.size_alloc] at this; omega
    clear hT hbW hb2 h1c h1f hb1
    generalize w1.heap.size = g at *
    go_wp2_with (first | (go_at_call 18; refine (need_t _ (by first | rfl | (simp; omega)) _).mono ?_; rintro e w_ ⟨rfl, rfl⟩) | (go_at_call 21; (with_reducible refine (HRE.out _).mono ?_); rintro e w4 ⟨rfl, hb4⟩; have h4c := bc hb4; have h4f := bf hb4; have h4z := hb4.size; try simp only [World.size_alloc, World.size_drew] at h4z))
    have HT4 := Lib.hid (HTA.out _ _ (HT2.out.below hb4) (bthen HB2.out hb4) hg)
    have HB4 := Lib.hid (bthen HB2.out hb4)
    refine HT4.out.mono ?_
    rintro e w5 ⟨(⟨hok, rfl, ht3⟩ | ⟨hno, rfl⟩), hk3⟩
    · rw [trim_at bs 4 2 (by omega)] at hok
      obtain ⟨k1, k2, k3⟩ := hok
      have HOK := Lib.hid (show LkOk bs glyphs size (rowsT (num bs 4 2) (num bs 6 2) 8 (num bs 2 2)) from ⟨.ten k1 h0 (by rw [HU9.out]; decide) k2, by rw [HU9.out]; exact k3⟩)
      rw [num_drop, num_drop, List.drop_drop] at ht3
      have HT3 := Lib.hid ht3
      have HB3 := Lib.hid (HB4.out.trans hk3.below)
      clear hk3 ht3
      go_wp2_with fail
      go_ret
      obtain ⟨e1, e2⟩ := tab_rowsT bs (num bs 4 2) (num bs 6 2) 8 (num bs 2 2)
      exact ⟨.inl ⟨_, g, HOK.out, rfl, by rw [e1, e2, HH0.out, HU9.out]; exact HT3.out⟩, HB3.out⟩
    · rw [trim_at bs 4 2 (by omega)] at hno
      refine ⟨rfl, .inr ⟨fun rs hrs => ?_, rfl⟩, HB4.out.trans hk3.below⟩
      obtain ⟨hr, hk⟩ := hrs
      cases hr with
      | ten k1 _ _ k2 => rw [HU9.out] at hk; exact hno ⟨k1, k2, hk⟩
      | _ => omega
  · have HU2 := Lib.hid (fun W hw => u16_y a n c 2 2 4 rfl bs (by rw [hu]; rfl) W hw hbl (by omega) hnc hc)
    have HTA := Lib.hid (fun (W : World) (g : Nat) (ht : TabIs w.heap.size g 10 [] [] W) (hb : Below w.heap.size w W) (hg : w.heap.size ≤ g) => trim_any w.heap.size g 10 4 4 rfl (adv a c 4) (n - 4) (c - 4) (bs.drop 4) W ht hg (by omega) (by have := ((hh.below hb).adv c 4 (by rw [bytesV_length, hbl]; exact hnc)); rw [bytesV_drop] at this; exact this) (by rw [List.length_drop, hbl]) (by omega) (by unfold maxLen; omega) (advB (has_lt hh (by omega))))
    have HU9 := Lib.hid hu
    clear hh hu
    go_enter Try.func20, Try.ntmps20
    go_wp2_with (first | (go_at_call 28; (with_reducible refine (HU.out _ (HH.out.below (by exact (by repeat (first | with_reducible exact brefl _ | with_reducible assumption | (with_reducible refine bset ?_ (by first | (simp; done) | (simp; omega)) _) | with_reducible refine balloc ?_ _ | with_reducible refine bdrew ?_ _ | with_reducible refine bdrew1 ?_ | with_reducible refine bthen ?_ (by assumption) | with_reducible refine Below.trans ?_ (by assumption) | exact brefl _ | assumption | refine balloc ?_ _ | refine bdrew ?_ _ | refine bdrew1 ?_ | refine bthen ?_ (by assumption) | refine Below.trans ?_ (by assumption) | (refine bset ?_ (by first | (simp; done) | (simp; omega)) _)))))).mono ?_); rintro e w1 ⟨rfl, hb1⟩; have h1c := bc hb1; have h1f := bf hb1; have h1z := hb1.size; try simp only [World.size_alloc, World.size_drew] at h1z))
    have hT := tab_new (B := w.heap.size) w1 10 (by omega) 10 rfl
    have hbW : Below w.heap.size w (w1.alloc (.cells #[.int .i64 10, .slice none 0 0, .slice none 0 0] 64)) := (by repeat (first | with_reducible exact brefl _ | with_reducible assumption | (with_reducible refine bset ?_ (by first | (simp; done) | (simp; omega)) _) | with_reducible refine balloc ?_ _ | with_reducible refine bdrew ?_ _ | with_reducible refine bdrew1 ?_ | with_reducible refine bthen ?_ (by assumption) | with_reducible refine Below.trans ?_ (by assumption) | exact brefl _ | assumption | refine balloc ?_ _ | refine bdrew ?_ _ | refine bdrew1 ?_ | refine bthen ?_ (by assumption) | refine Below.trans ?_ (by assumption) | (refine bset ?_ (by first | (simp; done) | (simp; omega)) _)))
    have hg : w.heap.size ≤ w1.heap.size := by omega
    refine (HU2.out _ (HH.out.below hbW)).mono ?_
    rintro e w2 ⟨rfl, hb2⟩
    have HT2 := Lib.hid (hT.below hb2)
    have HB2 := Lib.hid (bthen hbW hb2)
    have c3 : w2.cell? ⟨w.heap.size, 0, none⟩ = some (.slice a n c) := (hb2.cell (p := ⟨w.heap.size, 0, none⟩) (by show w.heap.size < _; simp; omega)).trans (by rw [hAC, if_neg (by omega), h1c, if_pos (by simp)]; simp [hAC])
    have hl3 : w.heap.size < w2.heap.size := by have := hb2.size; simp only [World.size_alloc] at this; omega
    clear hT hbW hb2 h1c h1f hb1
    generalize w1.heap.size = g at *
    go_wp2_with (first | (go_at_call 18; refine (need_t _ (by first | rfl | (simp; omega)) _).mono ?_; rintro e w_ ⟨rfl, rfl⟩) | (go_at_call 21; (with_reducible refine (HRE.out _).mono ?_); rintro e w4 ⟨rfl, hb4⟩; have h4c := bc hb4; have h4f := bf hb4; have h4z := hb4.size; try simp only [World.size_alloc, World.size_drew] at h4z))
    have HT4 := Lib.hid (HTA.out _ _ (HT2.out.below hb4) (bthen HB2.out hb4) hg)
    have HB4 := Lib.hid (bthen HB2.out hb4)
    refine HT4.out.mono ?_
    rintro e w5 ⟨(⟨hok, rfl, ht3⟩ | ⟨hno, rfl⟩), hk3⟩
    · rw [trim_at bs 4 4 (by omega)] at hok
      obtain ⟨k1, k2, k3⟩ := hok
      have HOK := Lib.hid (show LkOk bs glyphs size (rowsT (num bs 4 2) (num bs 6 2) 8 (num bs 2 2)) from ⟨.ten k1 h0 (by rw [HU9.out]; decide) k2, by rw [HU9.out]; exact k3⟩)
      rw [num_drop, num_drop, List.drop_drop] at ht3
      have HT3 := Lib.hid ht3
      have HB3 := Lib.hid (HB4.out.trans hk3.below)
      clear hk3 ht3
      go_wp2_with fail
      go_ret
      obtain ⟨e1, e2⟩ := tab_rowsT bs (num bs 4 2) (num bs 6 2) 8 (num bs 2 2)
      exact ⟨.inl ⟨_, g, HOK.out, rfl, by rw [e1, e2, HH0.out, HU9.out]; exact HT3.out⟩, HB3.out⟩
    · rw [trim_at bs 4 4 (by omega)] at hno
      refine ⟨rfl, .inr ⟨fun rs hrs => ?_, rfl⟩, HB4.out.trans hk3.below⟩
      obtain ⟨hr, hk⟩ := hrs
      cases hr with
      | ten k1 _ _ k2 => rw [HU9.out] at hk; exact hno ⟨k1, k2, hk⟩
      | _ => omega
end Go.Proofs.Ythjnpfhcjacibaa
