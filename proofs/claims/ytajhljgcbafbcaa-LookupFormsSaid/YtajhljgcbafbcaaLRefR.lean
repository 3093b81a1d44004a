
/- The reference's parts of layer 6 of the forms 6 and 10, all forms, and the reference's Read. Conditions: no more than 2000 bytes; a font's glyphs, numbers of two or four bytes. -/
import Derived.Test.YtajhljgcbafbcaaLRefQ
namespace Go.Proofs.Ytajhljgcbafbcaa
open Go.RowKit Go.Lib

set_option maxRecDepth 100000 in
set_option maxHeartbeats 3200000 in
theorem parts10 (a : Option Addr) (n c : Nat) (bs : List UInt8) (glyphs size : Nat) (zg zs : Int) (hzg : zg = (glyphs : Nat)) (hzs : zs = (size : Nat)) (hg1 : 1 ≤ glyphs) (hg2 : glyphs ≤ 65535) (hS : size = 2 ∨ size = 4) (w : World) (h : Has w a (bytesV bs)) (hl : bs.length = n) (hn : n ≤ c) (hc : c ≤ maxLen) (h20 : n ≤ 2000) (h2 : 2 ≤ n) (h0 : num bs 0 2 = 10) :
    Calls Try.prog 45 #[.slice a n c, .int .i64 zg, .int .i64 zs] w (PartsRes (PartsP bs n glyphs size) w) := by
  have hAC := allocC
  have hAF := allocF
  subst hzg hzs
  have hnm : n ≤ maxLen := Nat.le_trans hn hc
  have HH := Lib.hid h
  have HL := Lib.hid hl
  have HU := Lib.hid (fun W hw => u_fmt a n c bs 10 W hw HL.out hnm (by rw [if_pos h2, h0]; rfl))
  have hUU := fun W hw => u2_any a n c 2 2 rfl bs W hw HL.out hnm (by omega)
  by_cases hu : 4 ≤ n ∧ (num bs 2 2 = 1 ∨ num bs 2 2 = 2 ∨ num bs 2 2 = 4)
  case neg =>
    obtain ⟨y, hy⟩ : ∃ y : Int, (if 2 + 2 ≤ n then ((num bs 2 2 : Nat) : Int) else -1) = y := ⟨_, rfl⟩
    have hyy : y ≠ 1 ∧ y ≠ 2 ∧ y ≠ 4 := by
      rw [← hy]
      split <;> omega
    obtain ⟨y1, y2, y4⟩ := hyy
    rw [hy] at hUU
    have HUU := Lib.hid hUU
    have n1 : (y != 1) = true := by rw [bne_iff_ne]; exact y1
    have n2 : (y != 2) = true := by rw [bne_iff_ne]; exact y2
    have n4 : (y != 4) = true := by rw [bne_iff_ne]; exact y4
    have HNO := Lib.hid (show ∀ rs, ¬ LkOk bs glyphs size rs from fun rs hx => hu (by cases hx.rows <;> omega))
    clear h hl hy hu hUU
    go_enter Try.func45, Try.ntmps45
    go_wp2_with (first | (go_at_call 62; (with_reducible refine (HU.out _ HH.out).mono ?_); rintro e w_ ⟨rfl, rfl⟩) | (go_at_call 62; (with_reducible refine (HUU.out _ HH.out).mono ?_); rintro e w_ ⟨rfl, rfl⟩))
    go_ret2
    exact ⟨⟨[], false, none, 0, rfl, fun j u hu => (by simp [encRs] at hu), Nat.zero_le _, Nat.zero_le _, Nat.zero_le _, fun hx => (by cases hx), fun _ => HNO.out⟩, Below.refl _ _⟩
  obtain ⟨h4, hu⟩ := hu
  rw [if_pos (by omega)] at hUU
  have HPP := Lib.hid (show ∀ (u : Nat), num bs 2 2 = u → (u = 1 ∨ u = 2 ∨ u = 4) → ∀ (rs : List RP) (okb : Bool), ((okb = true → TrimZ bs 4 u ∧ rs = rowsT (num bs 4 2) (num bs 6 2) 8 u) ∧ (okb = false → ¬ TrimZ bs 4 u)) → PartsP bs n glyphs size rs okb from fun u hu hu1 rs okb hP => by
    refine ⟨fun hx => ?_, fun hx rs' hr' => ?_⟩
    · obtain ⟨h1, rfl⟩ := hP.1 hx
      have hz := trimZ_fits (by omega) h1
      rw [hl] at hz
      obtain ⟨k1, k2, _⟩ := (trimZ_lk bs 4 u).1 h1
      subst hu
      exact ⟨.ten k1 h0 hu1 k2, hz⟩
    · have hok := hr'.ok
      subst hu
      cases hr'.rows with
      | ten k1 _ _ k2 => exact hP.2 hx ((trimZ_lk bs 4 _).2 ⟨k1, k2, hok⟩)
      | _ => omega)
  obtain hu | hu | hu := hu
  · rw [hu] at hUU
    have HUU := Lib.hid (show ∀ W, Has W a (bytesV bs) → Calls Try.prog 62 #[.slice a n c, .int .i64 2, .int .i64 2] W fun e w' => e = .returned (.int .i64 1) ∧ W = w' from hUU)
    have HC := Lib.hid (trimmed_any a n c bs 4 1 4 1 rfl rfl (by omega) (by omega) w h hl hn hc h20)
    have HPQ := Lib.hid (HPP.out 1 hu (by omega))
    clear h hl hu hUU HPP
    go_enter Try.func45, Try.ntmps45
    go_wp2_with (first | (go_at_call 62; (with_reducible refine (HU.out _ HH.out).mono ?_); rintro e w_ ⟨rfl, rfl⟩) | (go_at_call 62; (with_reducible refine (HUU.out _ HH.out).mono ?_); rintro e w_ ⟨rfl, rfl⟩))
    refine HC.out.mono ?_
    rintro e w1 ⟨⟨rs, okb, a1, c1, rfl, hh1, q1, q2, q3, hP⟩, hb1⟩
    have HP := Lib.hid (show PartsP bs n glyphs size rs okb from HPQ.out rs okb hP)
    have HH1 := Lib.hid hh1
    have HB1 := Lib.hid hb1
    clear hP hh1 hb1 HC HPQ
    go_wp2_with fail
    go_ret2
    exact ⟨⟨rs, okb, a1, c1, rfl, HH1.out, q1, q2, q3, HP.out⟩, HB1.out⟩
  · rw [hu] at hUU
    have HUU := Lib.hid (show ∀ W, Has W a (bytesV bs) → Calls Try.prog 62 #[.slice a n c, .int .i64 2, .int .i64 2] W fun e w' => e = .returned (.int .i64 2) ∧ W = w' from hUU)
    have HC := Lib.hid (trimmed_any a n c bs 4 2 4 2 rfl rfl (by omega) (by omega) w h hl hn hc h20)
    have HPQ := Lib.hid (HPP.out 2 hu (by omega))
    clear h hl hu hUU HPP
    go_enter Try.func45, Try.ntmps45
    go_wp2_with (first | (go_at_call 62; (with_reducible refine (HU.out _ HH.out).mono ?_); rintro e w_ ⟨rfl, rfl⟩) | (go_at_call 62; (with_reducible refine (HUU.out _ HH.out).mono ?_); rintro e w_ ⟨rfl, rfl⟩))
    refine HC.out.mono ?_
    rintro e w1 ⟨⟨rs, okb, a1, c1, rfl, hh1, q1, q2, q3, hP⟩, hb1⟩
    have HP := Lib.hid (show PartsP bs n glyphs size rs okb from HPQ.out rs okb hP)
    have HH1 := Lib.hid hh1
    have HB1 := Lib.hid hb1
    clear hP hh1 hb1 HC HPQ
    go_wp2_with fail
    go_ret2
    exact ⟨⟨rs, okb, a1, c1, rfl, HH1.out, q1, q2, q3, HP.out⟩, HB1.out⟩
  · rw [hu] at hUU
    have HUU := Lib.hid (show ∀ W, Has W a (bytesV bs) → Calls Try.prog 62 #[.slice a n c, .int .i64 2, .int .i64 2] W fun e w' => e = .returned (.int .i64 4) ∧ W = w' from hUU)
    have HC := Lib.hid (trimmed_any a n c bs 4 4 4 4 rfl rfl (by omega) (by omega) w h hl hn hc h20)
    have HPQ := Lib.hid (HPP.out 4 hu (by omega))
    clear h hl hu hUU HPP
    go_enter Try.func45, Try.ntmps45
    go_wp2_with (first | (go_at_call 62; (with_reducible refine (HU.out _ HH.out).mono ?_); rintro e w_ ⟨rfl, rfl⟩) | (go_at_call 62; (with_reducible refine (HUU.out _ HH.out).mono ?_); rintro e w_ ⟨rfl, rfl⟩))
    refine HC.out.mono ?_
    rintro e w1 ⟨⟨rs, okb, a1, c1, rfl, hh1, q1, q2, q3, hP⟩, hb1⟩
    have HP := Lib.hid (show PartsP bs n glyphs size rs okb from HPQ.out rs okb hP)
    have HH1 := Lib.hid hh1
    have HB1 := Lib.hid hb1
    clear hP hh1 hb1 HC HPQ
    go_wp2_with fail
    go_ret2
    exact ⟨⟨rs, okb, a1, c1, rfl, HH1.out, q1, q2, q3, HP.out⟩, HB1.out⟩
set_option maxRecDepth 100000 in
set_option maxHeartbeats 3200000 in
theorem parts6 (a : Option Addr) (n c : Nat) (bs : List UInt8) (glyphs size : Nat) (zg zs : Int) (hzg : zg = (glyphs : Nat)) (hzs : zs = (size : Nat)) (hg1 : 1 ≤ glyphs) (hg2 : glyphs ≤ 65535) (hS : size = 2 ∨ size = 4) (w : World) (h : Has w a (bytesV bs)) (hl : bs.length = n) (hn : n ≤ c) (hc : c ≤ maxLen) (h20 : n ≤ 2000) (h2 : 2 ≤ n) (h0 : num bs 0 2 = 6) :
    Calls Try.prog 45 #[.slice a n c, .int .i64 zg, .int .i64 zs] w (PartsRes (PartsP bs n glyphs size) w) := by
  have hAC := allocC
  have hAF := allocF
  subst hzg hzs
  have hnm : n ≤ maxLen := Nat.le_trans hn hc
  have HH := Lib.hid h
  have HL := Lib.hid hl
  have HU := Lib.hid (fun W hw => u_fmt a n c bs 6 W hw HL.out hnm (by rw [if_pos h2, h0]; rfl))
  have HR := Lib.hid (sref_z a n c bs (2 + size) 1 (2 + (size : Int)) 1 (by omega) rfl w h hl hn hc h20 (by omega) (by omega) (by decide) (by omega))
  have HNP := Lib.hid (show ¬ skOk bs 2 (2 + size) → ∀ rs', ¬ LkOk bs glyphs size rs' from fun hno rs' hr' => by
    cases hr'.rows with
    | six _ _ h1 => exact hno h1
    | _ => omega)
  have HYP := Lib.hid (show skOk bs 2 (2 + size) → PartsP bs n glyphs size (rows6 bs size (skM bs 2 1)) true from fun hok => ⟨fun _ => ⟨.six (by omega) h0 hok, fun r hr ho => by obtain ⟨i, _, rfl⟩ := List.mem_map.1 hr; cases ho⟩, fun hx => (by cases hx)⟩)
  clear h hl
  go_enter Try.func45, Try.ntmps45
  go_wp2_with (first | (go_at_call 62; (with_reducible refine (HU.out _ HH.out).mono ?_); rintro e w_ ⟨rfl, rfl⟩))
  refine HR.out.mono ?_
  rintro e w2 ⟨(⟨a2, c2, hok, rfl, hrow, q1, q2⟩ | ⟨hno, rfl⟩), hb2⟩
  case inr =>
    have HB2 := Lib.hid hb2
    have HNO := Lib.hid (HNP.out hno)
    clear hb2 hno HR
    go_wp2_with fail
    go_loopw [11, 12] (fun out i wr => (∃ x y, out = .slice x 0 y ∧ y ≤ maxLen) ∧ i = .int .i64 0 ∧ Below w2.heap.size w2 wr) (fun _ _ _ => 0)
    case atStart => exact ⟨⟨_, _, rfl, Nat.zero_le _⟩, rfl, (by repeat (first | exact brefl _ | assumption | refine balloc ?_ _ | refine bdrew ?_ _ | refine bdrew1 ?_ | refine bthen ?_ (by assumption) | refine Below.trans ?_ (by assumption) | (refine bset ?_ (by first | (simp; done) | (simp; omega)) _)))⟩
    case round =>
      obtain ⟨⟨x, y, rfl, hy⟩, rfl, hbr⟩ := hrel
      have HBR := Lib.hid (HB2.out.trans (hbr.mono HB2.out.size))
      clear hbr
      go_wp2_with fail
      go_ret2
      exact ⟨⟨[], false, _, _, rfl, fun j u hu => (by simp [encRs] at hu), Nat.zero_le _, hy, Nat.zero_le _, fun hx => (by cases hx), fun _ => HNO.out⟩, HBR.out⟩
  have HYY := Lib.hid (HYP.out hok)
  have HB2 := Lib.hid hb2
  have HROW := Lib.hid hrow
  have hMN : skM bs 2 1 ≤ skN bs 2 := by unfold skM; split <;> omega
  have hM7 : skM bs 2 1 ≤ 65535 := Nat.le_trans hMN (num2_lt _ _)
  have hfit := hok.rows
  have hsz := hok.size
  rw [HL.out] at hfit
  have HRS := Lib.hid (show ∀ j, j < skM bs 2 1 → (rows6 bs size (skM bs 2 1))[j]? = some ⟨num bs (12 + j * skS bs 2) 2, num bs (12 + j * skS bs 2) 2, 12 + j * skS bs 2 + 2, size, false⟩ from fun j hj => by simp [rows6, List.getElem?_map, List.getElem?_range hj])
  have HLEN := Lib.hid (show (rows6 bs size (skM bs 2 1)).length = skM bs 2 1 from by simp [rows6])
  clear hok hb2 hrow HR HYP HNP
  generalize rows6 bs size (skM bs 2 1) = rs at *
  generalize skM bs 2 1 = M at *
  generalize skS bs 2 = q at *
  generalize skN bs 2 = N at *
  have HFIT := Lib.hid (show ∀ j, j < M → 12 + j * q + q ≤ n from fun j hj => by
    have : j * q + q ≤ N * q := by rw [← Nat.succ_mul]; exact Nat.mul_le_mul_right _ (by omega)
    omega)
  clear hfit hMN
  go_wp2_with fail
  go_loopw [11, 12] (fun out i wr => SgRel w2 rs (.bool true) out i wr) (fun _ i _ => M - (intOf i).toNat)
  case atStart => exact ⟨rfl, 0, _, _, Nat.zero_le _, rfl, rfl, World.ownsRow_lit w2 #[] 0 (Nat.le_refl _) (by decide) rfl, Nat.le_refl _, Nat.zero_le _, (by repeat (first | exact brefl _ | assumption | refine balloc ?_ _ | refine bdrew ?_ _ | refine bdrew1 ?_ | refine bthen ?_ (by assumption) | refine Below.trans ?_ (by assumption) | (refine bset ?_ (by first | (simp; done) | (simp; omega)) _)))⟩
  case round =>
    obtain ⟨_, k, a3, c3, hk, rfl, rfl, hown, o1, o2, hbr⟩ := hrel
    rw [HLEN.out] at hk
    have HOW := Lib.hid hown
    have HBR := Lib.hid hbr
    have HBX := Lib.hid (HB2.out.trans (hbr.mono HB2.out.size))
    clear hown hbr
    by_cases hlt : k < M
    · have hp := HFIT.out k hlt
      have HRK := Lib.hid (HRS.out k hlt)
      have HLT := Lib.hid hlt
      have hkp : (intsV (placesV 2 q M))[k]? = some (.int .i64 ((12 + k * q : Nat) : Int)) := by simp [intsV, placesV, List.getElem?_map, List.getElem?_range hlt]
      obtain ⟨ar, har, hcr⟩ := (HROW.out.below HBR.out) k _ hkp
      have HU0 := Lib.hid (fun W hw => u2_z a n c (12 + k * q) (((12 + k * q : Nat) : Int)) rfl bs W hw HL.out (by omega) (Nat.le_trans hn hc))
      have HHR := Lib.hid (HH.out.below HBX.out)
      have hl1 := num2_lt bs (12 + k * q)
      generalize num bs (12 + k * q) 2 = f1 at *
      generalize hpp : 12 + k * q = p at *
      subst har
      clear hpp hkp
      have hz2 : w2.heap.size ≤ wr.heap.size := HBR.out.size
      go_wp2_with (first | (go_at_call 62; (with_reducible refine (HU0.out _ HHR.out).mono ?_); rintro e w_ ⟨rfl, rfl⟩) | (at_builtin; refine wpAppL rfl _ _ 28 rfl w2.heap.size 87 (.agg #[.int .i64 0, .int .i64 0, .int .i64 0, .int .i64 0, .int .i64 0]) 5 40 Try.underlying28 rp_info rfl (by decide) _ k (encRs (rs.take k)) rfl (owns_below HOW.out (balloc (brefl _) _) (Nat.le_refl _)) ⟨_, 0, none⟩ 1 1 [.int .i64 (f1 : Nat), .int .i64 (f1 : Nat), .int .i64 ((p : Int) + 2), .int .i64 (size : Nat), .int .i64 0] rfl rfl (has_alloc _ _ _) (fun u hu => by simp at hu; rcases hu with rfl | rfl | rfl | rfl <;> rfl) (by unfold maxLen; omega) (by omega) (by simp; omega) ?_; intro a4 c4 w4 hown4 t41 t42 t43 hb4 hg4; have HO4 := Lib.hid hown4; have HB4 := Lib.hid hb4; have hz4 := hg4.size; clear hown4 hb4 hg4 t43; (try dsimp only [Act.put]); (try simp only [List.setIfInBounds_toArray, List.set_cons_succ, List.set_cons_zero])))
      rename World => w4
      have HT4 := Lib.hid (show encRs (rs.take k) ++ [.int .i64 (f1 : Nat), .int .i64 (f1 : Nat), .int .i64 ((p : Int) + 2), .int .i64 (size : Nat), .int .i64 0] = encRs (rs.take (k + 1)) from by rw [List.take_add_one, HRK.out]; show _ = encRs (_ ++ [_]); rw [← encRs_snoc]; simp [encR])
      have HB5 := Lib.hid (HBR.out.trans (((Below.refl w2.heap.size _).alloc (by omega) _).trans HB4.out))
      go_roundw
      case rel => exact ⟨rfl, k + 1, a4, c4, by rw [HLEN.out]; exact HLT.out, by go_num, rfl, by rw [← HT4.out]; exact HO4.out, t41, t42, HB5.out⟩
      case measure => simp [intOf]; have := HLT.out; omega
    · obtain rfl : k = M := by omega
      go_wp2_with fail
      go_ret2
      have ht := HOW.out
      rw [List.take_of_length_le (by rw [HLEN.out]; exact Nat.le_refl _)] at ht
      exact ⟨⟨rs, true, a3, c3, by rw [HLEN.out]; rfl, has_of_owns ht, by rw [HLEN.out]; exact o1, o2, by rw [HLEN.out]; exact hM7, HYY.out⟩, HBX.out⟩
theorem parts_any (a : Option Addr) (n c : Nat) (bs : List UInt8) (glyphs size : Nat) (zg zs : Int) (hzg : zg = (glyphs : Nat)) (hzs : zs = (size : Nat)) (hg1 : 1 ≤ glyphs) (hg2 : glyphs ≤ 65535) (hS : size = 2 ∨ size = 4) (w : World) (h : Has w a (bytesV bs)) (hl : bs.length = n) (hn : n ≤ c) (hc : c ≤ maxLen) (h20 : n ≤ 2000) :
    Calls Try.prog 45 #[.slice a n c, .int .i64 zg, .int .i64 zs] w (PartsRes (PartsP bs n glyphs size) w) := by
  by_cases h2 : 2 ≤ n
  case neg => exact partsX a n c bs glyphs size zg zs hzg hzs hg1 hg2 hS w h hl hn hc h20 (fun hx => h2 hx.1)
  by_cases e0 : num bs 0 2 = 0
  · exact parts0 a n c bs glyphs size zg zs hzg hzs hg1 hg2 hS w h hl hn hc h20 h2 e0
  by_cases e2 : num bs 0 2 = 2
  · exact parts2 a n c bs glyphs size zg zs hzg hzs hg1 hg2 hS w h hl hn hc h20 h2 e2
  by_cases e4 : num bs 0 2 = 4
  · exact parts4 a n c bs glyphs size zg zs hzg hzs hg1 hg2 hS w h hl hn hc h20 h2 e4
  by_cases e6 : num bs 0 2 = 6
  · exact parts6 a n c bs glyphs size zg zs hzg hzs hg1 hg2 hS w h hl hn hc h20 h2 e6
  by_cases e8 : num bs 0 2 = 8
  · exact parts8 a n c bs glyphs size zg zs hzg hzs hg1 hg2 hS w h hl hn hc h20 h2 e8
  by_cases e10 : num bs 0 2 = 10
  · exact parts10 a n c bs glyphs size zg zs hzg hzs hg1 hg2 hS w h hl hn hc h20 h2 e10
  exact partsX a n c bs glyphs size zg zs hzg hzs hg1 hg2 hS w h hl hn hc h20 (fun hx => by omega)
end Go.Proofs.Ytajhljgcbafbcaa
