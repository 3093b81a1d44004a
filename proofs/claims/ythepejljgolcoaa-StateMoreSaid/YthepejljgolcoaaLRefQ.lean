
/- The reference's parts of layer 6: those of a row of numbers. Conditions: no more than 2000 bytes. The reference's parts of layer 6, whatever the form. Conditions: no more than 2000 bytes; a font's glyphs, numbers of two or four bytes. -/
import Derived.Test.YthepejljgolcoaaLRef4
namespace Go.Proofs.Ythepejljgolcoaa
open Go.RowKit Go.Lib

theorem u2_any (a : Option Addr) (n c k : Nat) (z : Int) (hz : z = (k : Nat)) (bs : List UInt8) (w : World) (h : Has w a (bytesV bs)) (hl : bs.length = n) (hn : n ≤ maxLen) (hk : k ≤ 100000) :
    Calls Try.prog 41 #[.slice a n c, .int .i64 z, .int .i64 2] w fun e w' => e = .returned (.int .i64 (if k + 2 ≤ n then (num bs k 2 : Nat) else -1)) ∧ w = w' := by
  subst hz
  by_cases hx : k + 2 ≤ n
  · rw [if_pos hx]; exact u_in a n c k 2 bs w h hl hx (by omega) hn
  · rw [if_neg hx]; exact u_out a n c 2 k w (by omega) (by omega) (by omega) hn
/-- What trimmed answers: its parts, and whether there are such. -/
def TrimZ (bs : List UInt8) (at_ S : Nat) : Prop := at_ + 4 ≤ bs.length ∧ num bs at_ 2 + num bs (at_ + 2) 2 ≤ 65536 ∧ num bs (at_ + 2) 2 * S ≤ bs.length - (at_ + 4)
theorem fitK2 (n k m s : Nat) (hs : 1 ≤ s) : fitK n 2 (k : Int) (m : Int) (s : Int) ↔ k ≤ n ∧ m * s ≤ n - k := by
  unfold fitK
  simp only [Int.toNat_natCast]
  constructor
  · rintro ⟨_, h1, _, _, h2 | h2⟩
    · omega
    · exact ⟨by omega, (Nat.le_div_iff_mul_le (by omega)).1 h2⟩
  · rintro ⟨h1, h2⟩
    exact ⟨by omega, by omega, by omega, by omega, .inr ((Nat.le_div_iff_mul_le (by omega)).2 h2)⟩
set_option maxRecDepth 100000 in
set_option maxHeartbeats 3200000 in
theorem trimmed_any (a : Option Addr) (n c : Nat) (bs : List UInt8) (at_ S : Nat) (za zs : Int) (hza : za = (at_ : Nat)) (hzs : zs = (S : Nat)) (hat : at_ ≤ 10) (hS : S = 1 ∨ S = 2 ∨ S = 4) (w : World) (h : Has w a (bytesV bs)) (hl : bs.length = n) (hn : n ≤ c) (hc : c ≤ maxLen) (h20 : n ≤ 2000) :
    Calls Try.prog 73 #[.slice a n c, .int .i64 za, .int .i64 zs] w (PartsRes (fun rs okb => (okb = true → TrimZ bs at_ S ∧ rs = rowsT (num bs at_ 2) (num bs (at_ + 2) 2) (at_ + 4) S) ∧ (okb = false → ¬ TrimZ bs at_ S)) w) := by
  have hAC := allocC
  have hAF := allocF
  subst hza hzs
  have HH := Lib.hid h
  have HL := Lib.hid hl
  clear h hl
  have hnm : n ≤ maxLen := Nat.le_trans hn hc
  by_cases h2 : at_ + 4 ≤ n
  case neg =>
    have HNO := Lib.hid (show ¬ TrimZ bs at_ S from fun hx => by have := hx.1; rw [HL.out] at this; exact h2 this)
    obtain ⟨f, hf, hf2⟩ : ∃ f : Int, (if at_ + 2 ≤ n then ((num bs at_ 2 : Nat) : Int) else -1) = f ∧ -1 ≤ f ∧ f ≤ 65535 := ⟨_, rfl, by have := num2_lt bs at_; split <;> omega⟩
    obtain ⟨hf2, hf3⟩ := hf2
    have HU0 := Lib.hid (fun W hw => u2_any a n c at_ (at_ : Int) rfl bs W hw HL.out hnm (by omega))
    have HU2 := Lib.hid (fun W hw => u2_any a n c (at_ + 2) ((at_ : Int) + 2) (by omega) bs W hw HL.out hnm (by omega))
    rw [hf] at HU0
    rw [if_neg (by omega)] at HU2
    clear hf
    by_cases hf0 : f < 0
    all_goals
      go_enter Try.func73, Try.ntmps73
      go_wp2_with (first | (go_at_call 41; (with_reducible refine (HU2.out _ HH.out).mono ?_); rintro e w_ ⟨rfl, rfl⟩) | (go_at_call 41; (with_reducible refine (HU0.out _ HH.out).mono ?_); rintro e w_ ⟨rfl, rfl⟩))
      go_ret2
      exact ⟨⟨[], false, none, 0, rfl, fun j u hu => (by simp [encRs] at hu), Nat.zero_le _, Nat.zero_le _, Nat.zero_le _, fun hx => (by cases hx), fun _ => HNO.out⟩, Below.refl _ _⟩
  have HU0 := Lib.hid (fun W hw => u2_z a n c at_ (at_ : Int) rfl bs W hw HL.out (by omega) hnm)
  have HU2 := Lib.hid (fun W hw => u2_z a n c (at_ + 2) ((at_ : Int) + 2) (by omega) bs W hw HL.out (by omega) hnm)
  have hfl := num2_lt bs at_
  have hml := num2_lt bs (at_ + 2)
  have HTZ := Lib.hid (show TrimZ bs at_ S ↔ num bs at_ 2 + num bs (at_ + 2) 2 ≤ 65536 ∧ num bs (at_ + 2) 2 * S ≤ n - (at_ + 4) from by unfold TrimZ; rw [HL.out]; exact ⟨fun hx => hx.2, fun hx => ⟨h2, hx⟩⟩)
  generalize num bs at_ 2 = f at *
  generalize num bs (at_ + 2) 2 = m at *
  by_cases hfm : f + m ≤ 65536
  case neg =>
    have HNO := Lib.hid (show ¬ TrimZ bs at_ S from fun hx => hfm (HTZ.out.1 hx).1)
    have hbig : (65536 : Int) < (f : Int) + (m : Int) := by omega
    go_enter Try.func73, Try.ntmps73
    go_wp2_with (first | (go_at_call 41; (with_reducible refine (HU2.out _ HH.out).mono ?_); rintro e w_ ⟨rfl, rfl⟩) | (go_at_call 41; (with_reducible refine (HU0.out _ HH.out).mono ?_); rintro e w_ ⟨rfl, rfl⟩))
    go_ret2
    exact ⟨⟨[], false, none, 0, rfl, fun j u hu => (by simp [encRs] at hu), Nat.zero_le _, Nat.zero_le _, Nat.zero_le _, fun hx => (by cases hx), fun _ => HNO.out⟩, Below.refl _ _⟩
  have hbig : ¬ (65536 : Int) < (f : Int) + (m : Int) := by omega
  have hS1 : 1 ≤ S ∧ S ≤ 4 := by omega
  by_cases hfit : m * S ≤ n - (at_ + 4)
  case neg =>
    have HNO := Lib.hid (show ¬ TrimZ bs at_ S from fun hx => hfit (HTZ.out.1 hx).2)
    have HRR := Lib.hid (fun W => rref_any n ((at_ : Int) + 4) (m : Int) (S : Int) false (by have := fitK2 n (at_ + 4) m S hS1.1; rw [show (((at_ + 4 : Nat)) : Int) = (at_ : Int) + 4 by omega] at this; rw [this]; simp; omega) W hnm (by omega) (by omega) (by omega))
    clear hfit
    go_enter Try.func73, Try.ntmps73
    go_wp2_with (first | (go_at_call 41; (with_reducible refine (HU2.out _ HH.out).mono ?_); rintro e w_ ⟨rfl, rfl⟩) | (go_at_call 41; (with_reducible refine (HU0.out _ HH.out).mono ?_); rintro e w_ ⟨rfl, rfl⟩) | (go_at_call 43; refine (HRR.out _).mono ?_; rintro e w_ ⟨rfl, rfl⟩))
    go_ret2
    exact ⟨⟨[], false, none, 0, rfl, fun j u hu => (by simp [encRs] at hu), Nat.zero_le _, Nat.zero_le _, Nat.zero_le _, fun hx => (by cases hx), fun _ => HNO.out⟩, Below.refl _ _⟩
  have HRR := Lib.hid (fun W => rref_any n ((at_ : Int) + 4) (m : Int) (S : Int) true (by have := fitK2 n (at_ + 4) m S hS1.1; rw [show (((at_ + 4 : Nat)) : Int) = (at_ : Int) + 4 by omega] at this; rw [this]; simp; omega) W hnm (by omega) (by omega) (by omega))
  have HOK := Lib.hid (HTZ.out.2 ⟨hfm, hfit⟩)
  clear hfit
  by_cases hm0 : m = 0
  · subst hm0
    go_enter Try.func73, Try.ntmps73
    go_wp2_with (first | (go_at_call 41; (with_reducible refine (HU2.out _ HH.out).mono ?_); rintro e w_ ⟨rfl, rfl⟩) | (go_at_call 41; (with_reducible refine (HU0.out _ HH.out).mono ?_); rintro e w_ ⟨rfl, rfl⟩) | (go_at_call 43; refine (HRR.out _).mono ?_; rintro e w_ ⟨rfl, rfl⟩))
    go_ret2
    exact ⟨⟨[], true, _, _, rfl, fun j u hu => (by simp [encRs] at hu), Nat.le_refl _, Nat.zero_le _, Nat.zero_le _, fun _ => ⟨HOK.out, by simp [rowsT]⟩, fun hx => (by cases hx)⟩, (by repeat (first | with_reducible exact brefl _ | with_reducible assumption | (with_reducible refine bset ?_ (by first | (simp; done) | (simp; omega)) _) | with_reducible refine balloc ?_ _ | with_reducible refine bdrew ?_ _ | with_reducible refine bdrew1 ?_ | with_reducible refine bthen ?_ (by assumption) | with_reducible refine Below.trans ?_ (by assumption) | exact brefl _ | assumption | refine balloc ?_ _ | refine bdrew ?_ _ | refine bdrew1 ?_ | refine bthen ?_ (by assumption) | refine Below.trans ?_ (by assumption) | (refine bset ?_ (by first | (simp; done) | (simp; omega)) _)))⟩
  · have hmz : ((m : Int) == 0) = false := by rw [beq_eq_false_iff_ne]; omega
    have HRT := Lib.hid (show rowsT f m (at_ + 4) S = [⟨f, f + m - 1, at_ + 4, S, true⟩] from by simp [rowsT, hm0])
    have HL1 := Lib.hid (show (f : Int) + (m : Int) - 1 = ((f + m - 1 : Nat) : Int) by omega)
    go_enter Try.func73, Try.ntmps73
    go_wp2_with (first | (go_at_call 41; (with_reducible refine (HU2.out _ HH.out).mono ?_); rintro e w_ ⟨rfl, rfl⟩) | (go_at_call 41; (with_reducible refine (HU0.out _ HH.out).mono ?_); rintro e w_ ⟨rfl, rfl⟩) | (go_at_call 43; refine (HRR.out _).mono ?_; rintro e w_ ⟨rfl, rfl⟩))
    go_ret2
    refine ⟨⟨rowsT f m (at_ + 4) S, true, _, 1, by rw [HRT.out]; rfl, ?_, by rw [HRT.out]; exact Nat.le_refl _, by decide, by rw [HRT.out]; show 1 ≤ 65535; omega, fun _ => ⟨HOK.out, rfl⟩, fun hx => (by cases hx)⟩, (by repeat (first | with_reducible exact brefl _ | with_reducible assumption | (with_reducible refine bset ?_ (by first | (simp; done) | (simp; omega)) _) | with_reducible refine balloc ?_ _ | with_reducible refine bdrew ?_ _ | with_reducible refine bdrew1 ?_ | with_reducible refine bthen ?_ (by assumption) | with_reducible refine Below.trans ?_ (by assumption) | exact brefl _ | assumption | refine balloc ?_ _ | refine bdrew ?_ _ | refine bdrew1 ?_ | refine bthen ?_ (by assumption) | refine Below.trans ?_ (by assumption) | (refine bset ?_ (by first | (simp; done) | (simp; omega)) _)))⟩
    rw [HRT.out]
    have e : encRs [⟨f, f + m - 1, at_ + 4, S, true⟩] = [.int .i64 (f : Nat), .int .i64 ((f : Int) + (m : Int) - 1), .int .i64 ((at_ : Int) + 4), .int .i64 (S : Nat), .int .i64 (S : Nat)] := by rw [HL1.out]; rfl
    rw [e]
    exact has_alloc w _ _

def PartsP (bs : List UInt8) (n glyphs size : Nat) (rs : List RP) (okb : Bool) : Prop :=
  (okb = true → LkRows bs glyphs size rs ∧ ∀ r ∈ rs, r.own = true → fitZ n r) ∧ (okb = false → ∀ rs', ¬ LkOk bs glyphs size rs')
theorem fitZ_iff (n : Nat) (r : RP) (hs : 1 ≤ r.size) (hf : r.first ≤ r.last) : fitZ n r ↔ r.at_ ≤ n ∧ (r.last - r.first + 1) * r.size ≤ n - r.at_ := by
  unfold fitZ
  rw [show (r.last : Int) - (r.first : Int) + 1 = ((r.last - r.first + 1 : Nat) : Int) by omega]
  exact fitK2 n _ _ _ hs
theorem fitR_fitZ {bs : List UInt8} {ps : List PartL} {r : RP} (hs : 1 ≤ r.size) (h : fitR bs ps r) (ho : r.own = true) : fitZ bs.length r := by
  have h1 := h.1.1
  have h2 := h.2 ho
  have hle : r.size ≤ (r.last - r.first + 1) * r.size := Nat.le_mul_of_pos_left _ (by omega)
  exact (fitZ_iff _ _ hs (by omega)).2 ⟨by omega, by omega⟩
theorem LkOk.fits {bs : List UInt8} {glyphs size : Nat} {rs : List RP} (h : LkOk bs glyphs size rs) (hg : glyphs ≤ 65535) (hs : size = 2 ∨ size = 4) {r : RP} (hr : r ∈ rs) (ho : r.own = true) : fitZ bs.length r := by
  obtain ⟨i, hi, rfl⟩ := List.getElem_of_mem hr
  have := (h.rows.each hg hs).2 _ (List.getElem_mem hi)
  exact fitR_fitZ (by omega) (h.ok i _ (List.getElem?_eq_getElem hi)) ho
theorem trimZ_lk (bs : List UInt8) (at_ S : Nat) : TrimZ bs at_ S ↔ at_ + 4 ≤ bs.length ∧ num bs at_ 2 + num bs (at_ + 2) 2 ≤ 65536 ∧ okR bs (rowsT (num bs at_ 2) (num bs (at_ + 2) 2) (at_ + 4) S) := by
  unfold TrimZ
  constructor
  · rintro ⟨h1, h2, h3⟩; exact ⟨h1, h2, (ok_rowsT _ _ _ _ _ h1).2 h3⟩
  · rintro ⟨h1, h2, h3⟩; exact ⟨h1, h2, (ok_rowsT _ _ _ _ _ h1).1 h3⟩
theorem trimZ_fits {bs : List UInt8} {at_ S : Nat} (hS : 1 ≤ S) (h : TrimZ bs at_ S) : ∀ r ∈ rowsT (num bs at_ 2) (num bs (at_ + 2) 2) (at_ + 4) S, r.own = true → fitZ bs.length r := by
  obtain ⟨h1, h2, h3⟩ := (trimZ_lk bs at_ S).1 h
  intro r hr ho
  obtain ⟨i, hi, rfl⟩ := List.getElem_of_mem hr
  have hs : 1 ≤ ((rowsT (num bs at_ 2) (num bs (at_ + 2) 2) (at_ + 4) S)[i]).size := by
    have := List.getElem_mem hi
    generalize (rowsT (num bs at_ 2) (num bs (at_ + 2) 2) (at_ + 4) S)[i] = x at *
    unfold rowsT at this
    split at this
    · cases this
    · simp at this; subst this; exact hS
  exact fitR_fitZ hs (h3 i _ (List.getElem?_eq_getElem hi)) ho
theorem u_fmt (a : Option Addr) (n c : Nat) (bs : List UInt8) (y : Int) (w : World) (h : Has w a (bytesV bs)) (hl : bs.length = n) (hn : n ≤ maxLen) (hy : (if 2 ≤ n then ((num bs 0 2 : Nat) : Int) else -1) = y) :
    Calls Try.prog 41 #[.slice a n c, .int .i64 0, .int .i64 2] w fun e w' => e = .returned (.int .i64 y) ∧ w = w' := by
  refine (u2_any a n c 0 0 rfl bs w h hl hn (by omega)).mono ?_
  rintro e w' ⟨he, hw⟩
  rw [Nat.zero_add, hy] at he
  exact ⟨he, hw⟩
set_option maxRecDepth 100000 in
set_option maxHeartbeats 3200000 in
theorem partsX (a : Option Addr) (n c : Nat) (bs : List UInt8) (glyphs size : Nat) (zg zs : Int) (hzg : zg = (glyphs : Nat)) (hzs : zs = (size : Nat)) (hg1 : 1 ≤ glyphs) (hg2 : glyphs ≤ 65535) (hS : size = 2 ∨ size = 4) (w : World) (h : Has w a (bytesV bs)) (hl : bs.length = n) (hn : n ≤ c) (hc : c ≤ maxLen) (h20 : n ≤ 2000) (h0 : ¬ (2 ≤ n ∧ (num bs 0 2 = 0 ∨ num bs 0 2 = 2 ∨ num bs 0 2 = 4 ∨ num bs 0 2 = 6 ∨ num bs 0 2 = 8 ∨ num bs 0 2 = 10))) :
    Calls Try.prog 62 #[.slice a n c, .int .i64 zg, .int .i64 zs] w (PartsRes (PartsP bs n glyphs size) w) := by
  have hAC := allocC
  have hAF := allocF
  subst hzg hzs
  have hnm : n ≤ maxLen := Nat.le_trans hn hc
  have HH := Lib.hid h
  have HL := Lib.hid hl
  obtain ⟨y, hy⟩ : ∃ y : Int, (if 2 ≤ n then ((num bs 0 2 : Nat) : Int) else -1) = y := ⟨_, rfl⟩
  have hy2 : y ≠ 0 ∧ y ≠ 2 ∧ y ≠ 4 ∧ y ≠ 6 ∧ y ≠ 8 ∧ y ≠ 10 := by
    rw [← hy]
    split <;> omega
  obtain ⟨y0, y2, y4, y6, y8, y10⟩ := hy2
  have HU := Lib.hid (fun W hw => u_fmt a n c bs y W hw HL.out hnm hy)
  have e0 : (y == 0) = false := by rw [beq_eq_false_iff_ne]; exact y0
  have e2 : (y == 2) = false := by rw [beq_eq_false_iff_ne]; exact y2
  have e4 : (y == 4) = false := by rw [beq_eq_false_iff_ne]; exact y4
  have e6 : (y == 6) = false := by rw [beq_eq_false_iff_ne]; exact y6
  have e8 : (y == 8) = false := by rw [beq_eq_false_iff_ne]; exact y8
  have e10 : (y == 10) = false := by rw [beq_eq_false_iff_ne]; exact y10
  have HNO := Lib.hid (show ∀ rs, ¬ LkOk bs glyphs size rs from fun rs hx => h0 (by cases hx.rows <;> omega))
  clear h hl hy h0
  go_enter Try.func62, Try.ntmps62
  go_wp2_with (first | (go_at_call 41; (with_reducible refine (HU.out _ HH.out).mono ?_); rintro e w_ ⟨rfl, rfl⟩))
  go_ret2
  exact ⟨⟨[], false, none, 0, rfl, fun j u hu => (by simp [encRs] at hu), Nat.zero_le _, Nat.zero_le _, Nat.zero_le _, fun hx => (by cases hx), fun _ => HNO.out⟩, Below.refl _ _⟩
set_option maxRecDepth 100000 in
set_option maxHeartbeats 3200000 in
theorem parts0 (a : Option Addr) (n c : Nat) (bs : List UInt8) (glyphs size : Nat) (zg zs : Int) (hzg : zg = (glyphs : Nat)) (hzs : zs = (size : Nat)) (hg1 : 1 ≤ glyphs) (hg2 : glyphs ≤ 65535) (hS : size = 2 ∨ size = 4) (w : World) (h : Has w a (bytesV bs)) (hl : bs.length = n) (hn : n ≤ c) (hc : c ≤ maxLen) (h20 : n ≤ 2000) (h2 : 2 ≤ n) (h0 : num bs 0 2 = 0) :
    Calls Try.prog 62 #[.slice a n c, .int .i64 zg, .int .i64 zs] w (PartsRes (PartsP bs n glyphs size) w) := by
  have hAC := allocC
  have hAF := allocF
  subst hzg hzs
  have hnm : n ≤ maxLen := Nat.le_trans hn hc
  have HH := Lib.hid h
  have HL := Lib.hid hl
  have HU := Lib.hid (fun W hw => u_fmt a n c bs 0 W hw HL.out hnm (by rw [if_pos h2, h0]; rfl))
  have hk := fitK2 n 2 glyphs size (by omega)
  obtain ⟨okb, hokb⟩ : ∃ okb : Bool, okb = true ↔ glyphs * size ≤ n - 2 := ⟨decide (glyphs * size ≤ n - 2), by simp⟩
  have HRR := Lib.hid (fun W => rref_any n 2 (glyphs : Int) (size : Int) okb (by rw [hokb]; exact ⟨fun hx => hk.2 ⟨h2, hx⟩, fun hx => (hk.1 hx).2⟩) W hnm (by omega) (by omega) (by omega))
  have HOKR := Lib.hid (show okR bs [⟨0, glyphs - 1, 2, size, true⟩] ↔ glyphs * size ≤ n - 2 from by
    have := ok_rowsT bs 0 glyphs 2 size (by omega)
    unfold rowsT at this
    rw [if_neg (by omega), Nat.zero_add, hl] at this
    exact this)
  have HP := Lib.hid (show PartsP bs n glyphs size [⟨0, glyphs - 1, 2, size, true⟩] okb from by
    refine ⟨fun hx => ⟨.all (by omega) h0, fun r hr ho => ?_⟩, fun hx rs' hr' => ?_⟩
    · have hok := HOKR.out.2 (hokb.1 hx)
      simp at hr
      subst hr
      have := fitR_fitZ (by show 1 ≤ size; omega) (hok 0 _ rfl) rfl
      rw [hl] at this
      exact this
    · have e := hr'.rows.det (.all (by omega) h0)
      subst e
      have := hokb.2 (HOKR.out.1 hr'.ok)
      rw [hx] at this
      cases this)
  have HL1 := Lib.hid (show (glyphs : Int) - 1 = ((glyphs - 1 : Nat) : Int) by omega)
  clear h hl hk hokb
  go_enter Try.func62, Try.ntmps62
  go_wp2_with (first | (go_at_call 41; (with_reducible refine (HU.out _ HH.out).mono ?_); rintro e w_ ⟨rfl, rfl⟩) | (go_at_call 43; refine (HRR.out _).mono ?_; rintro e w_ ⟨rfl, rfl⟩))
  go_ret2
  refine ⟨⟨[⟨0, glyphs - 1, 2, size, true⟩], okb, _, 1, rfl, ?_, Nat.le_refl _, by decide, by show 1 ≤ 65535; omega, HP.out⟩, (by repeat (first | with_reducible exact brefl _ | with_reducible assumption | (with_reducible refine bset ?_ (by first | (simp; done) | (simp; omega)) _) | with_reducible refine balloc ?_ _ | with_reducible refine bdrew ?_ _ | with_reducible refine bdrew1 ?_ | with_reducible refine bthen ?_ (by assumption) | with_reducible refine Below.trans ?_ (by assumption) | exact brefl _ | assumption | refine balloc ?_ _ | refine bdrew ?_ _ | refine bdrew1 ?_ | refine bthen ?_ (by assumption) | refine Below.trans ?_ (by assumption) | (refine bset ?_ (by first | (simp; done) | (simp; omega)) _)))⟩
  have e : encRs [⟨0, glyphs - 1, 2, size, true⟩] = [.int .i64 0, .int .i64 ((glyphs : Int) - 1), .int .i64 2, .int .i64 (size : Nat), .int .i64 (size : Nat)] := by rw [HL1.out]; rfl
  rw [e]
  exact has_alloc w _ _
set_option maxRecDepth 100000 in
set_option maxHeartbeats 3200000 in
theorem parts2 (a : Option Addr) (n c : Nat) (bs : List UInt8) (glyphs size : Nat) (zg zs : Int) (hzg : zg = (glyphs : Nat)) (hzs : zs = (size : Nat)) (hg1 : 1 ≤ glyphs) (hg2 : glyphs ≤ 65535) (hS : size = 2 ∨ size = 4) (w : World) (h : Has w a (bytesV bs)) (hl : bs.length = n) (hn : n ≤ c) (hc : c ≤ maxLen) (h20 : n ≤ 2000) (h2 : 2 ≤ n) (h0 : num bs 0 2 = 2) :
    Calls Try.prog 62 #[.slice a n c, .int .i64 zg, .int .i64 zs] w (PartsRes (PartsP bs n glyphs size) w) := by
  have hAC := allocC
  have hAF := allocF
  subst hzg hzs
  have hnm : n ≤ maxLen := Nat.le_trans hn hc
  have HH := Lib.hid h
  have HL := Lib.hid hl
  have HU := Lib.hid (fun W hw => u_fmt a n c bs 2 W hw HL.out hnm (by rw [if_pos h2, h0]; rfl))
  have HC := Lib.hid (segs_false a n c bs size (size : Int) rfl hS w h hl hn hc h20)
  have HPP := Lib.hid (show ∀ (rs : List RP) (okb : Bool), ((okb = true → skOk bs 2 (4 + size) ∧ rs = rows2 bs size (skM bs 2 2)) ∧ (okb = false → ¬ skOk bs 2 (4 + size))) → PartsP bs n glyphs size rs okb from fun rs okb hP => by
    refine ⟨fun hx => ?_, fun hx rs' hr' => ?_⟩
    · obtain ⟨h1, rfl⟩ := hP.1 hx
      exact ⟨.two (by omega) h0 h1, fun r hr ho => by obtain ⟨i, _, rfl⟩ := List.mem_map.1 hr; cases ho⟩
    · cases hr'.rows with
      | two _ _ h1 => exact hP.2 hx h1
      | _ => omega)
  clear h hl
  go_enter Try.func62, Try.ntmps62
  go_wp2_with (first | (go_at_call 41; (with_reducible refine (HU.out _ HH.out).mono ?_); rintro e w_ ⟨rfl, rfl⟩))
  refine HC.out.mono ?_
  rintro e w1 ⟨⟨rs, okb, a1, c1, rfl, hh1, q1, q2, q3, hP⟩, hb1⟩
  have HP := Lib.hid (show PartsP bs n glyphs size rs okb from HPP.out rs okb hP)
  have HH1 := Lib.hid hh1
  have HB1 := Lib.hid hb1
  clear hP hh1 hb1 HC HPP
  go_wp2_with fail
  go_ret2
  exact ⟨⟨rs, okb, a1, c1, rfl, HH1.out, q1, q2, q3, HP.out⟩, HB1.out⟩
set_option maxRecDepth 100000 in
set_option maxHeartbeats 3200000 in
theorem parts4 (a : Option Addr) (n c : Nat) (bs : List UInt8) (glyphs size : Nat) (zg zs : Int) (hzg : zg = (glyphs : Nat)) (hzs : zs = (size : Nat)) (hg1 : 1 ≤ glyphs) (hg2 : glyphs ≤ 65535) (hS : size = 2 ∨ size = 4) (w : World) (h : Has w a (bytesV bs)) (hl : bs.length = n) (hn : n ≤ c) (hc : c ≤ maxLen) (h20 : n ≤ 2000) (h2 : 2 ≤ n) (h0 : num bs 0 2 = 4) :
    Calls Try.prog 62 #[.slice a n c, .int .i64 zg, .int .i64 zs] w (PartsRes (PartsP bs n glyphs size) w) := by
  have hAC := allocC
  have hAF := allocF
  subst hzg hzs
  have hnm : n ≤ maxLen := Nat.le_trans hn hc
  have HH := Lib.hid h
  have HL := Lib.hid hl
  have HU := Lib.hid (fun W hw => u_fmt a n c bs 4 W hw HL.out hnm (by rw [if_pos h2, h0]; rfl))
  have HC := Lib.hid (segs_true a n c bs size (size : Int) rfl hS w h hl hn hc h20)
  have HPP := Lib.hid (show ∀ (rs : List RP) (okb : Bool), ((okb = true → skOk bs 2 6 ∧ rs = rows4 bs size (skM bs 2 2) ∧ ∀ r ∈ rs, fitZ n r) ∧ (okb = false → ¬ skOk bs 2 6 ∨ ∃ r ∈ rows4 bs size (skM bs 2 2), ¬ fitZ n r)) → PartsP bs n glyphs size rs okb from fun rs okb hP => by
    refine ⟨fun hx => ?_, fun hx rs' hr' => ?_⟩
    · obtain ⟨h1, rfl, h3⟩ := hP.1 hx
      exact ⟨.four (by omega) h0 h1, fun r hr _ => h3 r hr⟩
    · rcases hP.2 hx with hx | ⟨r, hr, hz⟩
      · cases hr'.rows with
        | four _ _ h1 => exact hx h1
        | _ => omega
      · have hfz := fun hm ho => hr'.fits hg2 hS (r := r) hm ho
        rw [hl] at hfz
        cases hr'.rows with
        | four _ _ h1 => exact hz (hfz hr (by obtain ⟨i, _, rfl⟩ := List.mem_map.1 hr; rfl))
        | _ => omega)
  clear h hl
  go_enter Try.func62, Try.ntmps62
  go_wp2_with (first | (go_at_call 41; (with_reducible refine (HU.out _ HH.out).mono ?_); rintro e w_ ⟨rfl, rfl⟩))
  refine HC.out.mono ?_
  rintro e w1 ⟨⟨rs, okb, a1, c1, rfl, hh1, q1, q2, q3, hP⟩, hb1⟩
  have HP := Lib.hid (show PartsP bs n glyphs size rs okb from HPP.out rs okb hP)
  have HH1 := Lib.hid hh1
  have HB1 := Lib.hid hb1
  clear hP hh1 hb1 HC HPP
  go_wp2_with fail
  go_ret2
  exact ⟨⟨rs, okb, a1, c1, rfl, HH1.out, q1, q2, q3, HP.out⟩, HB1.out⟩
set_option maxRecDepth 100000 in
set_option maxHeartbeats 3200000 in
theorem parts8 (a : Option Addr) (n c : Nat) (bs : List UInt8) (glyphs size : Nat) (zg zs : Int) (hzg : zg = (glyphs : Nat)) (hzs : zs = (size : Nat)) (hg1 : 1 ≤ glyphs) (hg2 : glyphs ≤ 65535) (hS : size = 2 ∨ size = 4) (w : World) (h : Has w a (bytesV bs)) (hl : bs.length = n) (hn : n ≤ c) (hc : c ≤ maxLen) (h20 : n ≤ 2000) (h2 : 2 ≤ n) (h0 : num bs 0 2 = 8) :
    Calls Try.prog 62 #[.slice a n c, .int .i64 zg, .int .i64 zs] w (PartsRes (PartsP bs n glyphs size) w) := by
  have hAC := allocC
  have hAF := allocF
  subst hzg hzs
  have hnm : n ≤ maxLen := Nat.le_trans hn hc
  have HH := Lib.hid h
  have HL := Lib.hid hl
  have HU := Lib.hid (fun W hw => u_fmt a n c bs 8 W hw HL.out hnm (by rw [if_pos h2, h0]; rfl))
  have HC := Lib.hid (trimmed_any a n c bs 2 size 2 (size : Int) rfl rfl (by omega) (by omega) w h hl hn hc h20)
  have HPP := Lib.hid (show ∀ (rs : List RP) (okb : Bool), ((okb = true → TrimZ bs 2 size ∧ rs = rowsT (num bs 2 2) (num bs 4 2) 6 size) ∧ (okb = false → ¬ TrimZ bs 2 size)) → PartsP bs n glyphs size rs okb from fun rs okb hP => by
    refine ⟨fun hx => ?_, fun hx rs' hr' => ?_⟩
    · obtain ⟨h1, rfl⟩ := hP.1 hx
      have hz := trimZ_fits (by omega) h1
      rw [hl] at hz
      obtain ⟨k1, k2, _⟩ := (trimZ_lk bs 2 size).1 h1
      exact ⟨.eight k1 h0 k2, hz⟩
    · have hok := hr'.ok
      cases hr'.rows with
      | eight k1 _ k2 => exact hP.2 hx ((trimZ_lk bs 2 size).2 ⟨k1, k2, hok⟩)
      | _ => omega)
  clear h hl
  go_enter Try.func62, Try.ntmps62
  go_wp2_with (first | (go_at_call 41; (with_reducible refine (HU.out _ HH.out).mono ?_); rintro e w_ ⟨rfl, rfl⟩))
  refine HC.out.mono ?_
  rintro e w1 ⟨⟨rs, okb, a1, c1, rfl, hh1, q1, q2, q3, hP⟩, hb1⟩
  have HP := Lib.hid (show PartsP bs n glyphs size rs okb from HPP.out rs okb hP)
  have HH1 := Lib.hid hh1
  have HB1 := Lib.hid hb1
  clear hP hh1 hb1 HC HPP
  go_wp2_with fail
  go_ret2
  exact ⟨⟨rs, okb, a1, c1, rfl, HH1.out, q1, q2, q3, HP.out⟩, HB1.out⟩
end Go.Proofs.Ythepejljgolcoaa
