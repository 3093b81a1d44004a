
/- The reference's parts of layer 6 of the forms 6 and 10, all forms, and the reference's Read. Conditions: no more than 2000 bytes; a font's glyphs, numbers of two or four bytes. The reference's Read of layer 6. Conditions: no more than 2000 bytes; a font's glyphs, numbers of two or four bytes. -/
import Derived.Test.YthepejljgolcoaaLRefQ
namespace Go.Proofs.Ythepejljgolcoaa
open Go.RowKit Go.Lib

set_option maxRecDepth 100000 in
set_option maxHeartbeats 3200000 in
theorem parts10 (a : Option Addr) (n c : Nat) (bs : List UInt8) (glyphs size : Nat) (zg zs : Int) (hzg : zg = (glyphs : Nat)) (hzs : zs = (size : Nat)) (hg1 : 1 ≤ glyphs) (hg2 : glyphs ≤ 65535) (hS : size = 2 ∨ size = 4) (w : World) (h : Has w a (bytesV bs)) (hl : bs.length = n) (hn : n ≤ c) (hc : c ≤ maxLen) (h20 : n ≤ 2000) (h2 : 2 ≤ n) (h0 : num bs 0 2 = 10) :
    Calls Try.prog 62 #[.slice a n c, .int .i64 zg, .int .i64 zs] w (PartsRes (PartsP bs n glyphs size) w) := by
  have hAC := allocC
  have hAF := allocF
  subst hzg hzs
  have hnm : n ≤ maxLen := Nat.le_trans hn hc
  have HH := Lib.hid h
  have HL := Lib.hid hl
  have HU := Lib.hid (fun W hw => u_fmt a n c bs 10 W hw HL.out hnm (by rw [if_pos h2, h0]; rfl))
  have hUU := fun W hw => u2_any a n c 2 2 rfl bs W hw HL.out hnm (by omega)
  by_cases hu : 4 ≤ n ∧ (num bs 2 2 = 1 ∨ num bs 2 2 = 2 ∨ num bs 2 2 = 4)
  case neg =>
    obtain ⟨y, hy⟩ : ∃ y : Int, (if 2 + 2 ≤ n then ((num bs 2 2 : Nat) : Int) else -1) = y := ⟨_, rfl⟩
    have hyy : y ≠ 1 ∧ y ≠ 2 ∧ y ≠ 4 := by
      rw [← hy]
      split <;> omega
    obtain ⟨y1, y2, y4⟩ := hyy
    rw [hy] at hUU
    have HUU := Lib.hid hUU
    have n1 : (y != 1) = true := by rw [bne_iff_ne]; exact y1
    have n2 : (y != 2) = true := by rw [bne_iff_ne]; exact y2
    have n4 : (y != 4) = true := by rw [bne_iff_ne]; exact y4
    have HNO := Lib.hid (show ∀ rs, ¬ LkOk bs glyphs size rs from fun rs hx => hu (by cases hx.rows <;> omega))
    clear h hl hy hu hUU
    go_enter Try.func62, Try.ntmps62
    go_wp2_with (first | (go_at_call 41; (with_reducible refine (HU.out _ HH.out).mono ?_); rintro e w_ ⟨rfl, rfl⟩) | (go_at_call 41; (with_reducible refine (HUU.out _ HH.out).mono ?_); rintro e w_ ⟨rfl, rfl⟩))
    go_ret2
    exact ⟨⟨[], false, none, 0, rfl, fun j u hu => (by simp [encRs] at hu), Nat.zero_le _, Nat.zero_le _, Nat.zero_le _, fun hx => (by cases hx), fun _ => HNO.out⟩, Below.refl _ _⟩
  obtain ⟨h4, hu⟩ := hu
  rw [if_pos (by omega)] at hUU
  have HPP := Lib.hid (show ∀ (u : Nat), num bs 2 2 = u → (u = 1 ∨ u = 2 ∨ u = 4) → ∀ (rs : List RP) (okb : Bool), ((okb = true → TrimZ bs 4 u ∧ rs = rowsT (num bs 4 2) (num bs 6 2) 8 u) ∧ (okb = false → ¬ TrimZ bs 4 u)) → PartsP bs n glyphs size rs okb from fun u hu hu1 rs okb hP => by
    refine ⟨fun hx => ?_, fun hx rs' hr' => ?_⟩
    · obtain ⟨h1, rfl⟩ := hP.1 hx
      have hz := trimZ_fits (by omega) h1
      rw [hl] at hz
      obtain ⟨k1, k2, _⟩ := (trimZ_lk bs 4 u).1 h1
      subst hu
      exact ⟨.ten k1 h0 hu1 k2, hz⟩
    · have hok := hr'.ok
      subst hu
      cases hr'.rows with
      | ten k1 _ _ k2 => exact hP.2 hx ((trimZ_lk bs 4 _).2 ⟨k1, k2, hok⟩)
      | _ => omega)
  obtain hu | hu | hu := hu
  · rw [hu] at hUU
    have HUU := Lib.hid (show ∀ W, Has W a (bytesV bs) → Calls Try.prog 41 #[.slice a n c, .int .i64 2, .int .i64 2] W fun e w' => e = .returned (.int .i64 1) ∧ W = w' from hUU)
    have HC := Lib.hid (trimmed_any a n c bs 4 1 4 1 rfl rfl (by omega) (by omega) w h hl hn hc h20)
    have HPQ := Lib.hid (HPP.out 1 hu (by omega))
    clear h hl hu hUU HPP
    go_enter Try.func62, Try.ntmps62
    go_wp2_with (first | (go_at_call 41; (with_reducible refine (HU.out _ HH.out).mono ?_); rintro e w_ ⟨rfl, rfl⟩) | (go_at_call 41; (with_reducible refine (HUU.out _ HH.out).mono ?_); rintro e w_ ⟨rfl, rfl⟩))
    refine HC.out.mono ?_
    rintro e w1 ⟨⟨rs, okb, a1, c1, rfl, hh1, q1, q2, q3, hP⟩, hb1⟩
    have HP := Lib.hid (show PartsP bs n glyphs size rs okb from HPQ.out rs okb hP)
    have HH1 := Lib.hid hh1
    have HB1 := Lib.hid hb1
    clear hP hh1 hb1 HC HPQ
    go_wp2_with fail
    go_ret2
    exact ⟨⟨rs, okb, a1, c1, rfl, HH1.out, q1, q2, q3, HP.out⟩, HB1.out⟩
  · rw [hu] at hUU
    have HUU := Lib.hid (show ∀ W, Has W a (bytesV bs) → Calls Try.prog 41 #[.slice a n c, .int .i64 2, .int .i64 2] W fun e w' => e = .returned (.int .i64 2) ∧ W = w' from hUU)
    have HC := Lib.hid (trimmed_any a n c bs 4 2 4 2 rfl rfl (by omega) (by omega) w h hl hn hc h20)
    have HPQ := Lib.hid (HPP.out 2 hu (by omega))
    clear h hl hu hUU HPP
    go_enter Try.func62, Try.ntmps62
    go_wp2_with (first | (go_at_call 41; (with_reducible refine (HU.out _ HH.out).mono ?_); rintro e w_ ⟨rfl, rfl⟩) | (go_at_call 41; (with_reducible refine (HUU.out _ HH.out).mono ?_); rintro e w_ ⟨rfl, rfl⟩))
    refine HC.out.mono ?_
    rintro e w1 ⟨⟨rs, okb, a1, c1, rfl, hh1, q1, q2, q3, hP⟩, hb1⟩
    have HP := Lib.hid (show PartsP bs n glyphs size rs okb from HPQ.out rs okb hP)
    have HH1 := Lib.hid hh1
    have HB1 := Lib.hid hb1
    clear hP hh1 hb1 HC HPQ
    go_wp2_with fail
    go_ret2
    exact ⟨⟨rs, okb, a1, c1, rfl, HH1.out, q1, q2, q3, HP.out⟩, HB1.out⟩
  · rw [hu] at hUU
    have HUU := Lib.hid (show ∀ W, Has W a (bytesV bs) → Calls Try.prog 41 #[.slice a n c, .int .i64 2, .int .i64 2] W fun e w' => e = .returned (.int .i64 4) ∧ W = w' from hUU)
    have HC := Lib.hid (trimmed_any a n c bs 4 4 4 4 rfl rfl (by omega) (by omega) w h hl hn hc h20)
    have HPQ := Lib.hid (HPP.out 4 hu (by omega))
    clear h hl hu hUU HPP
    go_enter Try.func62, Try.ntmps62
    go_wp2_with (first | (go_at_call 41; (with_reducible refine (HU.out _ HH.out).mono ?_); rintro e w_ ⟨rfl, rfl⟩) | (go_at_call 41; (with_reducible refine (HUU.out _ HH.out).mono ?_); rintro e w_ ⟨rfl, rfl⟩))
    refine HC.out.mono ?_
    rintro e w1 ⟨⟨rs, okb, a1, c1, rfl, hh1, q1, q2, q3, hP⟩, hb1⟩
    have HP := Lib.hid (show PartsP bs n glyphs size rs okb from HPQ.out rs okb hP)
    have HH1 := Lib.hid hh1
    have HB1 := Lib.hid hb1
    clear hP hh1 hb1 HC HPQ
    go_wp2_with fail
    go_ret2
    exact ⟨⟨rs, okb, a1, c1, rfl, HH1.out, q1, q2, q3, HP.out⟩, HB1.out⟩
set_option maxRecDepth 100000 in
set_option maxHeartbeats 3200000 in
theorem parts6 (a : Option Addr) (n c : Nat) (bs : List UInt8) (glyphs size : Nat) (zg zs : Int) (hzg : zg = (glyphs : Nat)) (hzs : zs = (size : Nat)) (hg1 : 1 ≤ glyphs) (hg2 : glyphs ≤ 65535) (hS : size = 2 ∨ size = 4) (w : World) (h : Has w a (bytesV bs)) (hl : bs.length = n) (hn : n ≤ c) (hc : c ≤ maxLen) (h20 : n ≤ 2000) (h2 : 2 ≤ n) (h0 : num bs 0 2 = 6) :
    Calls Try.prog 62 #[.slice a n c, .int .i64 zg, .int .i64 zs] w (PartsRes (PartsP bs n glyphs size) w) := by
  have hAC := allocC
  have hAF := allocF
  subst hzg hzs
  have hnm : n ≤ maxLen := Nat.le_trans hn hc
  have HH := Lib.hid h
  have HL := Lib.hid hl
  have HU := Lib.hid (fun W hw => u_fmt a n c bs 6 W hw HL.out hnm (by rw [if_pos h2, h0]; rfl))
  have HR := Lib.hid (sref_z a n c bs (2 + size) 1 (2 + (size : Int)) 1 (by omega) rfl w h hl hn hc h20 (by omega) (by omega) (by decide) (by omega))
  have HNP := Lib.hid (show ¬ skOk bs 2 (2 + size) → ∀ rs', ¬ LkOk bs glyphs size rs' from fun hno rs' hr' => by
    cases hr'.rows with
    | six _ _ h1 => exact hno h1
    | _ => omega)
  have HYP := Lib.hid (show skOk bs 2 (2 + size) → PartsP bs n glyphs size (rows6 bs size (skM bs 2 1)) true from fun hok => ⟨fun _ => ⟨.six (by omega) h0 hok, fun r hr ho => by obtain ⟨i, _, rfl⟩ := List.mem_map.1 hr; cases ho⟩, fun hx => (by cases hx)⟩)
  clear h hl
  go_enter Try.func62, Try.ntmps62
  go_wp2_with (first | (go_at_call 41; (with_reducible refine (HU.out _ HH.out).mono ?_); rintro e w_ ⟨rfl, rfl⟩))
  refine HR.out.mono ?_
  rintro e w2 ⟨(⟨a2, c2, hok, rfl, hrow, q1, q2⟩ | ⟨hno, rfl⟩), hb2⟩
  case inr =>
    have HB2 := Lib.hid hb2
    have HNO := Lib.hid (HNP.out hno)
    clear hb2 hno HR
    go_wp2_with fail
    go_loopw [11, 12] (fun out i wr => (∃ x y, out = .slice x 0 y ∧ y ≤ maxLen) ∧ i = .int .i64 0 ∧ Below w2.heap.size w2 wr) (fun _ _ _ => 0)
    case atStart => exact ⟨⟨_, _, rfl, Nat.zero_le _⟩, rfl, (by repeat (first | with_reducible exact brefl _ | with_reducible assumption | (with_reducible refine bset ?_ (by first | (simp; done) | (simp; omega)) _) | with_reducible refine balloc ?_ _ | with_reducible refine bdrew ?_ _ | with_reducible refine bdrew1 ?_ | with_reducible refine bthen ?_ (by assumption) | with_reducible refine Below.trans ?_ (by assumption) | exact brefl _ | assumption | refine balloc ?_ _ | refine bdrew ?_ _ | refine bdrew1 ?_ | refine bthen ?_ (by assumption) | refine Below.trans ?_ (by assumption) | (refine bset ?_ (by first | (simp; done) | (simp; omega)) _)))⟩
    case round =>
      obtain ⟨⟨x, y, rfl, hy⟩, rfl, hbr⟩ := hrel
      have HBR := Lib.hid (HB2.out.trans (hbr.mono HB2.out.size))
      clear hbr
      go_wp2_with fail
      go_ret2
      exact ⟨⟨[], false, _, _, rfl, fun j u hu => (by simp [encRs] at hu), Nat.zero_le _, hy, Nat.zero_le _, fun hx => (by cases hx), fun _ => HNO.out⟩, HBR.out⟩
  have HYY := Lib.hid (HYP.out hok)
  have HB2 := Lib.hid hb2
  have HROW := Lib.hid hrow
  have hMN : skM bs 2 1 ≤ skN bs 2 := by unfold skM; split <;> omega
  have hM7 : skM bs 2 1 ≤ 65535 := Nat.le_trans hMN (num2_lt _ _)
  have hfit := hok.rows
  have hsz := hok.size
  rw [HL.out] at hfit
  have HRS := Lib.hid (show ∀ j, j < skM bs 2 1 → (rows6 bs size (skM bs 2 1))[j]? = some ⟨num bs (12 + j * skS bs 2) 2, num bs (12 + j * skS bs 2) 2, 12 + j * skS bs 2 + 2, size, false⟩ from fun j hj => by simp [rows6, List.getElem?_map, List.getElem?_range hj])
  have HLEN := Lib.hid (show (rows6 bs size (skM bs 2 1)).length = skM bs 2 1 from by simp [rows6])
  clear hok hb2 hrow HR HYP HNP
  generalize rows6 bs size (skM bs 2 1) = rs at *
  generalize skM bs 2 1 = M at *
  generalize skS bs 2 = q at *
  generalize skN bs 2 = N at *
  have HFIT := Lib.hid (show ∀ j, j < M → 12 + j * q + q ≤ n from fun j hj => by
    have : j * q + q ≤ N * q := by rw [← Nat.succ_mul]; exact Nat.mul_le_mul_right _ (by omega)
    omega)
  clear hfit hMN
  go_wp2_with fail
  go_loopw [11, 12] (fun out i wr => SgRel w2 rs (.bool true) out i wr) (fun _ i _ => M - (intOf i).toNat)
  case atStart => exact ⟨rfl, 0, _, _, Nat.zero_le _, rfl, rfl, World.ownsRow_lit w2 #[] 0 (Nat.le_refl _) (by decide) rfl, Nat.le_refl _, Nat.zero_le _, (by repeat (first | with_reducible exact brefl _ | with_reducible assumption | (with_reducible refine bset ?_ (by first | (simp; done) | (simp; omega)) _) | with_reducible refine balloc ?_ _ | with_reducible refine bdrew ?_ _ | with_reducible refine bdrew1 ?_ | with_reducible refine bthen ?_ (by assumption) | with_reducible refine Below.trans ?_ (by assumption) | exact brefl _ | assumption | refine balloc ?_ _ | refine bdrew ?_ _ | refine bdrew1 ?_ | refine bthen ?_ (by assumption) | refine Below.trans ?_ (by assumption) | (refine bset ?_ (by first | (simp; done) | (simp; omega)) _)))⟩
  case round =>
    obtain ⟨_, k, a3, c3, hk, rfl, rfl, hown, o1, o2, hbr⟩ := hrel
    rw [HLEN.out] at hk
    have HOW := Lib.hid hown
    have HBR := Lib.hid hbr
    have HBX := Lib.hid (HB2.out.trans (hbr.mono HB2.out.size))
    clear hown hbr
    by_cases hlt : k < M
    · have hp := HFIT.out k hlt
      have HRK := Lib.hid (HRS.out k hlt)
      have HLT := Lib.hid hlt
      have hkp : (intsV (placesV 2 q M))[k]? = some (.int .i64 ((12 + k * q : Nat) : Int)) := by simp [intsV, placesV, List.getElem?_map, List.getElem?_range hlt]
      obtain ⟨ar, har, hcr⟩ := (HROW.out.below HBR.out) k _ hkp
      have HU0 := Lib.hid (fun W hw => u2_z a n c (12 + k * q) (((12 + k * q : Nat) : Int)) rfl bs W hw HL.out (by omega) (Nat.le_trans hn hc))
      have HHR := Lib.hid (HH.out.below HBX.out)
      have hl1 := num2_lt bs (12 + k * q)
      generalize num bs (12 + k * q) 2 = f1 at *
      generalize hpp : 12 + k * q = p at *
      subst har
      clear hpp hkp
      have hz2 : w2.heap.size ≤ wr.heap.size := HBR.out.size
      go_wp2_with (first | (go_at_call 41; (with_reducible refine (HU0.out _ HHR.out).mono ?_); rintro e w_ ⟨rfl, rfl⟩) | (at_builtin; refine wpAppL rfl _ _ 45 rfl w2.heap.size 117 (.agg #[.int .i64 0, .int .i64 0, .int .i64 0, .int .i64 0, .int .i64 0]) 5 40 Try.underlying45 rp_info rfl (by decide) _ k (encRs (rs.take k)) rfl (owns_below HOW.out (balloc (brefl _) _) (Nat.le_refl _)) ⟨_, 0, none⟩ 1 1 [.int .i64 (f1 : Nat), .int .i64 (f1 : Nat), .int .i64 ((p : Int) + 2), .int .i64 (size : Nat), .int .i64 0] rfl rfl (has_alloc _ _ _) (fun u hu => by simp at hu; rcases hu with rfl | rfl | rfl | rfl <;> rfl) (by unfold maxLen; omega) (by omega) (by simp; omega) ?_; intro a4 c4 w4 hown4 t41 t42 t43 hb4 hg4; have HO4 := Lib.hid hown4; have HB4 := Lib.hid hb4; have hz4 := hg4.size; clear hown4 hb4 hg4 t43; (try dsimp only [Act.put]); (try simp only [List.setIfInBounds_toArray, List.set_cons_succ, List.set_cons_zero])))
      rename World => w4
      have HT4 := Lib.hid (show encRs (rs.take k) ++ [.int .i64 (f1 : Nat), .int .i64 (f1 : Nat), .int .i64 ((p : Int) + 2), .int .i64 (size : Nat), .int .i64 0] = encRs (rs.take (k + 1)) from by rw [List.take_add_one, HRK.out]; show _ = encRs (_ ++ [_]); rw [← encRs_snoc]; simp [encR])
      have HB5 := Lib.hid (HBR.out.trans (((Below.refl w2.heap.size _).alloc (by omega) _).trans HB4.out))
      go_roundw
      case rel => exact ⟨rfl, k + 1, a4, c4, by rw [HLEN.out]; exact HLT.out, by go_num, rfl, by rw [← HT4.out]; exact HO4.out, t41, t42, HB5.out⟩
      case measure => simp [intOf]; have := HLT.out; omega
    · obtain rfl : k = M := by omega
      go_wp2_with fail
      go_ret2
      have ht := HOW.out
      rw [List.take_of_length_le (by rw [HLEN.out]; exact Nat.le_refl _)] at ht
      exact ⟨⟨rs, true, a3, c3, by rw [HLEN.out]; rfl, has_of_owns ht, by rw [HLEN.out]; exact o1, o2, by rw [HLEN.out]; exact hM7, HYY.out⟩, HBX.out⟩
theorem parts_any (a : Option Addr) (n c : Nat) (bs : List UInt8) (glyphs size : Nat) (zg zs : Int) (hzg : zg = (glyphs : Nat)) (hzs : zs = (size : Nat)) (hg1 : 1 ≤ glyphs) (hg2 : glyphs ≤ 65535) (hS : size = 2 ∨ size = 4) (w : World) (h : Has w a (bytesV bs)) (hl : bs.length = n) (hn : n ≤ c) (hc : c ≤ maxLen) (h20 : n ≤ 2000) :
    Calls Try.prog 62 #[.slice a n c, .int .i64 zg, .int .i64 zs] w (PartsRes (PartsP bs n glyphs size) w) := by
  by_cases h2 : 2 ≤ n
  case neg => exact partsX a n c bs glyphs size zg zs hzg hzs hg1 hg2 hS w h hl hn hc h20 (fun hx => h2 hx.1)
  by_cases e0 : num bs 0 2 = 0
  · exact parts0 a n c bs glyphs size zg zs hzg hzs hg1 hg2 hS w h hl hn hc h20 h2 e0
  by_cases e2 : num bs 0 2 = 2
  · exact parts2 a n c bs glyphs size zg zs hzg hzs hg1 hg2 hS w h hl hn hc h20 h2 e2
  by_cases e4 : num bs 0 2 = 4
  · exact parts4 a n c bs glyphs size zg zs hzg hzs hg1 hg2 hS w h hl hn hc h20 h2 e4
  by_cases e6 : num bs 0 2 = 6
  · exact parts6 a n c bs glyphs size zg zs hzg hzs hg1 hg2 hS w h hl hn hc h20 h2 e6
  by_cases e8 : num bs 0 2 = 8
  · exact parts8 a n c bs glyphs size zg zs hzg hzs hg1 hg2 hS w h hl hn hc h20 h2 e8
  by_cases e10 : num bs 0 2 = 10
  · exact parts10 a n c bs glyphs size zg zs hzg hzs hg1 hg2 hS w h hl hn hc h20 h2 e10
  exact partsX a n c bs glyphs size zg zs hzg hzs hg1 hg2 hS w h hl hn hc h20 (fun hx => by omega)

theorem tabR_lasts (bs : List UInt8) (rs : List RP) : (tabR bs rs).1.map PartL.last = rs.map RP.last := by
  suffices h : ∀ (rs : List RP) (s : List PartL × List Nat), (rs.foldl (stepR bs) s).1.map PartL.last = s.1.map PartL.last ++ rs.map RP.last by simpa [tabR] using h rs ([], [])
  intro rs
  induction rs with
  | nil => intro s; simp
  | cons r rs ih => intro s; simp only [List.foldl_cons, ih, stepR, List.map_append, List.map_cons, List.map_nil, List.append_assoc, List.cons_append, List.nil_append]
def goodR (rs : List RP) (i : Nat) : Prop := ∀ r, rs[i]? = some r → r.first ≤ r.last ∧ ∀ q, 0 < i → rs[i - 1]? = some q → q.last < r.first
theorem canAdd_good (bs : List UInt8) (rs : List RP) (i : Nat) (r : RP) (hr : rs[i]? = some r) : CanAdd (tabR bs (rs.take i)).1 (r.first : Nat) (r.last : Nat) ↔ r.first ≤ r.last ∧ ∀ q, 0 < i → rs[i - 1]? = some q → q.last < r.first := by
  have hil := (List.getElem?_eq_some_iff.1 hr).1
  have hlen : (tabR bs (rs.take i)).1.length = i := by rw [tabR_len, List.length_take]; omega
  have hls := tabR_lasts bs (rs.take i)
  have hget : ∀ j, j < i → ((tabR bs (rs.take i)).1[j]?).map PartL.last = (rs[j]?).map RP.last := fun j hj => by
    rw [← List.getElem?_map, hls, List.getElem?_map, List.getElem?_take, if_pos hj]
  unfold CanAdd
  rw [hlen]
  constructor
  · rintro ⟨h1, h2⟩
    refine ⟨by omega, fun q hi hq => ?_⟩
    have hg := hget (i - 1) (by omega)
    rw [hq] at hg
    obtain ⟨p, hp⟩ : ∃ p, (tabR bs (rs.take i)).1[i - 1]? = some p := ⟨_, List.getElem?_eq_getElem (by omega)⟩
    have := h2 p hp
    rw [hp] at hg
    simp at hg
    omega
  · rintro ⟨h1, h2⟩
    refine ⟨by omega, fun p hp => ?_⟩
    have hpi := (List.getElem?_eq_some_iff.1 hp).1
    rw [hlen] at hpi
    have hg := hget (i - 1) (by omega)
    rw [hp] at hg
    obtain ⟨q, hq⟩ : ∃ q, rs[i - 1]? = some q := ⟨_, List.getElem?_eq_getElem (by omega)⟩
    have := h2 q (by omega) hq
    rw [hq] at hg
    simp at hg
    omega
theorem okR_good (bs : List UInt8) (rs : List RP) (hs : ∀ r ∈ rs, 1 ≤ r.size) : okR bs rs ↔ (∀ i, i < rs.length → goodR rs i) ∧ ∀ r ∈ rs, r.own = true → fitZ bs.length r := by
  constructor
  · intro h
    refine ⟨fun i _ r hr => (canAdd_good bs rs i r hr).1 (h i r hr).1, fun r hr ho => ?_⟩
    obtain ⟨i, hi, rfl⟩ := List.getElem_of_mem hr
    exact fitR_fitZ (hs _ hr) (h i _ (List.getElem?_eq_getElem hi)) ho
  · rintro ⟨h1, h2⟩ i r hr
    have hg := h1 i (List.getElem?_eq_some_iff.1 hr).1 r hr
    have hm := List.mem_of_getElem? hr
    refine ⟨(canAdd_good bs rs i r hr).2 hg, fun ho => ?_⟩
    have := (fitZ_iff _ _ (hs r hm) hg.1).1 (h2 r hm ho)
    omega
def RefReadIs (a : Option Addr) (n c : Nat) (bs : List UInt8) (glyphs size : Nat) (w : World) (e : Ending) (w' : World) : Prop :=
  ((∃ (rs : List RP) (a' : Option Addr) (c' : Nat), LkOk bs glyphs size rs ∧ e = .returned (.tuple #[.agg #[.slice a n c, .slice a' rs.length c'], .bool true]) ∧ Has w' a' (encRs rs) ∧ rs.length ≤ c' ∧ c' ≤ maxLen ∧ rs.length ≤ 65535) ∨
   ((∀ rs, ¬ LkOk bs glyphs size rs) ∧ e = .returned (.tuple #[.agg #[.slice none 0 0, .slice none 0 0], .bool false]))) ∧ Below w.heap.size w w'
theorem rs_cells {w : World} {a : Option Addr} {rs : List RP} (h : Has w a (encRs rs)) {k : Nat} (hk : k < rs.length) : ∃ p, a = some p ∧ w.cell? (p.add (k * 5)) = some (.int .i64 ((rs.getD k ⟨0, 0, 0, 0, false⟩).first : Nat)) ∧ w.cell? (p.add (k * 5 + 1)) = some (.int .i64 ((rs.getD k ⟨0, 0, 0, 0, false⟩).last : Nat)) := by
  have hx := List.getElem?_eq_getElem hk
  have e : rs.getD k ⟨0, 0, 0, 0, false⟩ = rs[k] := by rw [List.getD_eq_getElem?_getD, hx]; rfl
  rw [e]
  have g0 := encRs_get rs k _ hx 0 (by omega)
  have g1 := encRs_get rs k _ hx 1 (by omega)
  obtain ⟨p, hp, c0⟩ := h _ _ g0
  obtain ⟨q, hq, c1⟩ := h _ _ g1
  rw [hp] at hq
  cases hq
  exact ⟨p, hp, c0, c1⟩
theorem add_next (p : Addr) (m : Nat) : (⟨(p.add m).block, (p.add m).off + 1, none⟩ : Addr) = p.add (m + 1) := by
  obtain ⟨b, o, s⟩ := p
  simp only [Addr.add]
  by_cases h : m = 0
  · subst h; simp
  · simp [h, Nat.add_assoc]
theorem has_set {w : World} {a : Option Addr} {xs : List Value} (h : Has w a xs) {g o : Nat} (hne : xs ≠ [] → ∀ p, a = some p → p.block ≠ g) (v : Value) : Has (w.setCell ⟨g, o, none⟩ v) a xs := by
  intro j u hu
  obtain ⟨p, hp, hc⟩ := h j u hu
  refine ⟨p, hp, ?_⟩
  rw [World.cell?_of_block (w := w) (set_heap_other v (by rw [add_block]; exact hne (by rintro rfl; simp at hu) p hp))]
  exact hc
theorem encRs_apart {w : World} {a : Option Addr} {rs : List RP} (h : Has w a (encRs rs)) {g : Nat} {v1 v2 : Value} {t : Nat} (hg : w.heap[g]? = some (.cells #[v1, v2] t (0, 0))) (h1 : ∀ z, v1 ≠ .int .i64 z) (h2 : ∀ z, v2 ≠ .int .i64 z) : encRs rs ≠ [] → ∀ p, a = some p → p.block ≠ g := by
  intro hne p hp hb
  obtain ⟨r, hr⟩ : ∃ r, rs[0]? = some r := by
    cases rs with
    | nil => exact absurd rfl hne
    | cons r rs => exact ⟨r, rfl⟩
  obtain ⟨q, hq, hc⟩ := h _ _ (encRs_get rs 0 r hr 1 (by omega))
  rw [hp] at hq
  cases hq
  have e : p.add (0 * 5 + 1) = ⟨g, p.off + 1, none⟩ := by rw [← hb]; simp [Addr.add]
  rw [e] at hc
  have hx := cell_of_heap hg (p.off + 1)
  rw [hx] at hc
  match hoff : p.off + 1, hc with
  | 0, hc => omega
  | 1, hc => simp at hc; exact h2 _ hc
  | n + 2, hc => simp at hc
set_option maxRecDepth 100000 in
set_option maxHeartbeats 3200000 in
theorem refRead_any (a : Option Addr) (n c : Nat) (bs : List UInt8) (glyphs size : Nat) (zg zs : Int) (hzg : zg = (glyphs : Nat)) (hzs : zs = (size : Nat)) (hg1 : 1 ≤ glyphs) (hg2 : glyphs ≤ 65535) (hS : size = 2 ∨ size = 4) (w : World) (h : Has w a (bytesV bs)) (hl : bs.length = n) (hn : n ≤ c) (hc : c ≤ maxLen) (h20 : n ≤ 2000) :
    Calls Try.prog 42 #[.slice a n c, .int .i64 zg, .int .i64 zs] w (RefReadIs a n c bs glyphs size w) := by
  have hAC := allocC
  have hAF := allocF
  subst hzg hzs
  have HP := Lib.hid (fun W hW => parts_any a n c bs glyphs size (glyphs : Int) (size : Int) rfl rfl hg1 hg2 hS W (h.below hW) hl hn hc h20)
  have HL := Lib.hid hl
  clear h hl
  go_enter Try.func42, Try.ntmps42
  go_wp2_with fail
  refine (HP.out _ (balloc (brefl w) _)).mono ?_
  rintro e w1 ⟨⟨rs, okb, a1, c1, rfl, hh1, q1, q2, q3, hP⟩, hb1⟩
  have HH1 := Lib.hid hh1
  have HPP := Lib.hid hP
  have c6 : w1.heap[w.heap.size]? = some (.cells #[.slice none 0 0, .slice none 0 0] 47 (0, 0)) := (hb1.block _ (by simp)).trans (by rw [heap_push, if_pos rfl])
  have HB1 := Lib.hid (bthen (balloc (brefl w) _) hb1)
  have HC6 := Lib.hid c6
  have hl6 := (Array.getElem?_eq_some_iff.1 c6).1
  clear hh1 hP hb1 c6 HP
  generalize hLL : rs.length = L at *
  have HLL := Lib.hid hLL
  clear hLL
  go_wp2_with fail
  go_loopw [9, 10] (fun ok i wr => ∃ (k : Nat) (okk : Bool), k ≤ L ∧ i = .int .i64 (k : Nat) ∧ ok = .bool okk ∧ (okk = true ↔ okb = true ∧ ∀ i, i < k → goodR rs i) ∧ Below w1.heap.size w1 wr) (fun _ i _ => L - (intOf i).toNat)
  case atStart => exact ⟨0, okb, Nat.zero_le _, rfl, rfl, ⟨fun hx => ⟨hx, fun i hi => (by omega)⟩, fun hx => hx.1⟩, brefl _⟩
  case round =>
    obtain ⟨k, okk, hk, rfl, rfl, hok, hbr⟩ := hrel
    have HOK := Lib.hid hok
    have HBR := Lib.hid hbr
    clear hok hbr
    by_cases hlt : k < L
    · have hhw := HH1.out.below HBR.out
      obtain ⟨r, hr⟩ : ∃ r, rs[k]? = some r := ⟨_, List.getElem?_eq_getElem (by rw [HLL.out]; exact hlt)⟩
      have g0 := encRs_get rs k _ hr 0 (by omega)
      have g1 := encRs_get rs k _ hr 1 (by omega)
      simp only [encR, List.getElem?_cons_zero, List.getElem?_cons_succ, Nat.add_zero] at g0 g1
      obtain ⟨p, hap, _⟩ := hhw _ _ g0
      have k0 : ∀ pp : Wld wr [], pp.val.cell? (p.add (k * 5)) = some (.int .i64 (r.first : Nat)) := fun pp => by
        obtain ⟨x, hx, hc⟩ := has_wld hhw pp _ _ g0
        rw [hap] at hx; cases hx; exact hc
      have k1 : wr.cell? ⟨(p.add (k * 5)).block, (p.add (k * 5)).off + 1, none⟩ = some (.int .i64 (r.last : Nat)) := by
        rw [add_next]
        obtain ⟨x, hx, hc⟩ := hhw _ _ g1
        rw [hap] at hx; cases hx; exact hc
      have kb : (p.add (k * 5)).block < wr.heap.size := by have := cell_lt k1; simpa using this
      have HLT := Lib.hid hlt
      have HR := Lib.hid hr
      by_cases hfl : r.last < r.first
      · have HBAD := Lib.hid (show ¬ goodR rs k from fun hg => by have := (hg r hr).1; omega)
        have d1 : decide ((r.last : Int) < (r.first : Int)) = true := by simp; omega
        have d2 : decide (r.last < r.first) = true := by simp; omega
        have HST := Lib.hid (show false = true ↔ okb = true ∧ ∀ i, i < k + 1 → goodR rs i from ⟨fun hx => (by cases hx), fun hx => absurd (hx.2 k (Nat.lt_succ_self k)) HBAD.out⟩)
        subst hap
        clear hr g0 g1 hhw
        generalize r.first = f at *
        generalize r.last = l at *
        go_wp2_with fail
        refine wp_region_tree (.step 0 (.step 1 (.step 2 (.step 3 (.step 4 (.step 5 (.step 6 (.step 7 (.step 8 (.step 9 (.step 10 (.step 11 (.step 12 (.step 13 (.step 14 (.step 15 (.step 16 (.step 17 (.step 18 (.step 19 (.step 20 (.step 21 (.step 22 (.step 23 (.step 24 (.step 25 (.step 26 (.step 27 (.step 28 .nil))))))))))))))))))))))))))))) (by kernel_rfl) (by kernel_rfl) (by kernel_rfl) (by kernel_rfl) (by intro _ _ d_ _ _ h_; cases d_ <;> first | exact h_ | (dsimp +zetaDelta only at h_ ⊢; exact h_)) (fun w' => ∃ p : Wld wr [], w' = p.val) (wld_start _ _) ?_
        have hG_ := @wldC wr
        (refine tree_quiet (by simp only [List.getElem?_toArray, List.getElem?_cons_succ, List.getElem?_cons_zero]; rfl) (by rfl) (by rfl) (fun K_ hK_ => ?_); go_big_quiet_op; refine hK_ _ ?_; clear hK_ K_)
        (refine tree_quiet (by simp only [List.getElem?_toArray, List.getElem?_cons_succ, List.getElem?_cons_zero]; rfl) (by rfl) (by rfl) (fun K_ hK_ => ?_); go_big_quiet_op; refine hK_ _ ?_; clear hK_ K_)
        (refine tree_quiet (by simp only [List.getElem?_toArray, List.getElem?_cons_succ, List.getElem?_cons_zero]; rfl) (by rfl) (by rfl) (fun K_ hK_ => ?_); go_big_quiet_op; refine hK_ _ ?_; clear hK_ K_)
        (refine tree_quiet (by simp only [List.getElem?_toArray, List.getElem?_cons_succ, List.getElem?_cons_zero]; rfl) (by rfl) (by rfl) (fun K_ hK_ => ?_); go_big_quiet_op; refine hK_ _ ?_; clear hK_ K_)
        (refine tree_quiet (by simp only [List.getElem?_toArray, List.getElem?_cons_succ, List.getElem?_cons_zero]; rfl) (by rfl) (by rfl) (fun K_ hK_ => ?_); go_big_quiet_op; refine hK_ _ ?_; clear hK_ K_)
        (refine tree_quiet (by simp only [List.getElem?_toArray, List.getElem?_cons_succ, List.getElem?_cons_zero]; rfl) (by rfl) (by rfl) (fun K_ hK_ => ?_); go_big_quiet_op; refine hK_ _ ?_; clear hK_ K_)
        (refine tree_quiet (by simp only [List.getElem?_toArray, List.getElem?_cons_succ, List.getElem?_cons_zero]; rfl) (by rfl) (by rfl) (fun K_ hK_ => ?_); go_big_quiet_op; refine hK_ _ ?_; clear hK_ K_)
        (refine tree_quiet (by simp only [List.getElem?_toArray, List.getElem?_cons_succ, List.getElem?_cons_zero]; rfl) (by rfl) (by rfl) (fun K_ hK_ => ?_); go_big_quiet_op; refine hK_ _ ?_; clear hK_ K_)
        (refine tree_quiet (by simp only [List.getElem?_toArray, List.getElem?_cons_succ, List.getElem?_cons_zero]; rfl) (by rfl) (by rfl) (fun K_ hK_ => ?_); go_big_quiet_op; refine hK_ _ ?_; clear hK_ K_)
        (refine tree_quiet (by simp only [List.getElem?_toArray, List.getElem?_cons_succ, List.getElem?_cons_zero]; rfl) (by rfl) (by rfl) (fun K_ hK_ => ?_); go_big_quiet_op; refine hK_ _ ?_; clear hK_ K_)
        (refine tree_quiet (by simp only [List.getElem?_toArray, List.getElem?_cons_succ, List.getElem?_cons_zero]; rfl) (by rfl) (by rfl) (fun K_ hK_ => ?_); go_big_quiet_op; refine hK_ _ ?_; clear hK_ K_)
        (refine tree_quiet (by simp only [List.getElem?_toArray, List.getElem?_cons_succ, List.getElem?_cons_zero]; rfl) (by rfl) (by rfl) (fun K_ hK_ => ?_); go_big_quiet_op; refine hK_ _ ?_; clear hK_ K_)
        refine tree_skip (by simp only [List.getElem?_toArray, List.getElem?_cons_succ, List.getElem?_cons_zero]; rfl) (by rfl) ?_; dsimp only [Act.put]; simp only [List.setIfInBounds_toArray, List.set_cons_succ, List.set_cons_zero]
        refine tree_skip (by simp only [List.getElem?_toArray, List.getElem?_cons_succ, List.getElem?_cons_zero]; rfl) (by rfl) ?_; dsimp only [Act.put]; simp only [List.setIfInBounds_toArray, List.set_cons_succ, List.set_cons_zero]
        refine tree_skip (by simp only [List.getElem?_toArray, List.getElem?_cons_succ, List.getElem?_cons_zero]; rfl) (by rfl) ?_; dsimp only [Act.put]; simp only [List.setIfInBounds_toArray, List.set_cons_succ, List.set_cons_zero]
        first | (refine tree_skip (by simp only [List.getElem?_toArray, List.getElem?_cons_succ, List.getElem?_cons_zero]; rfl) (by rfl) ?_; dsimp only [Act.put]; simp only [List.setIfInBounds_toArray, List.set_cons_succ, List.set_cons_zero]) | (refine tree_quiet (by simp only [List.getElem?_toArray, List.getElem?_cons_succ, List.getElem?_cons_zero]; rfl) (by rfl) (by rfl) (fun K_ hK_ => ?_); go_big_quiet_op; refine hK_ _ ?_; clear hK_ K_)
        first | (refine tree_skip (by simp only [List.getElem?_toArray, List.getElem?_cons_succ, List.getElem?_cons_zero]; rfl) (by rfl) ?_; dsimp only [Act.put]; simp only [List.setIfInBounds_toArray, List.set_cons_succ, List.set_cons_zero]) | (refine tree_quiet (by simp only [List.getElem?_toArray, List.getElem?_cons_succ, List.getElem?_cons_zero]; rfl) (by rfl) (by rfl) (fun K_ hK_ => ?_); go_big_quiet_op; refine hK_ _ ?_; clear hK_ K_)
        first | (refine tree_skip (by simp only [List.getElem?_toArray, List.getElem?_cons_succ, List.getElem?_cons_zero]; rfl) (by rfl) ?_; dsimp only [Act.put]; simp only [List.setIfInBounds_toArray, List.set_cons_succ, List.set_cons_zero]) | (refine tree_quiet (by simp only [List.getElem?_toArray, List.getElem?_cons_succ, List.getElem?_cons_zero]; rfl) (by rfl) (by rfl) (fun K_ hK_ => ?_); go_big_quiet_op; refine hK_ _ ?_; clear hK_ K_)
        first | (refine tree_skip (by simp only [List.getElem?_toArray, List.getElem?_cons_succ, List.getElem?_cons_zero]; rfl) (by rfl) ?_; dsimp only [Act.put]; simp only [List.setIfInBounds_toArray, List.set_cons_succ, List.set_cons_zero]) | (refine tree_quiet (by simp only [List.getElem?_toArray, List.getElem?_cons_succ, List.getElem?_cons_zero]; rfl) (by rfl) (by rfl) (fun K_ hK_ => ?_); go_big_quiet_op; refine hK_ _ ?_; clear hK_ K_)
        first | (refine tree_skip (by simp only [List.getElem?_toArray, List.getElem?_cons_succ, List.getElem?_cons_zero]; rfl) (by rfl) ?_; dsimp only [Act.put]; simp only [List.setIfInBounds_toArray, List.set_cons_succ, List.set_cons_zero]) | (refine tree_quiet (by simp only [List.getElem?_toArray, List.getElem?_cons_succ, List.getElem?_cons_zero]; rfl) (by rfl) (by rfl) (fun K_ hK_ => ?_); go_big_quiet_op; refine hK_ _ ?_; clear hK_ K_)
        first | (refine tree_skip (by simp only [List.getElem?_toArray, List.getElem?_cons_succ, List.getElem?_cons_zero]; rfl) (by rfl) ?_; dsimp only [Act.put]; simp only [List.setIfInBounds_toArray, List.set_cons_succ, List.set_cons_zero]) | (refine tree_quiet (by simp only [List.getElem?_toArray, List.getElem?_cons_succ, List.getElem?_cons_zero]; rfl) (by rfl) (by rfl) (fun K_ hK_ => ?_); go_big_quiet_op; refine hK_ _ ?_; clear hK_ K_)
        first | (refine tree_skip (by simp only [List.getElem?_toArray, List.getElem?_cons_succ, List.getElem?_cons_zero]; rfl) (by rfl) ?_; dsimp only [Act.put]; simp only [List.setIfInBounds_toArray, List.set_cons_succ, List.set_cons_zero]) | (refine tree_quiet (by simp only [List.getElem?_toArray, List.getElem?_cons_succ, List.getElem?_cons_zero]; rfl) (by rfl) (by rfl) (fun K_ hK_ => ?_); go_big_quiet_op; refine hK_ _ ?_; clear hK_ K_)
        first | (refine tree_skip (by simp only [List.getElem?_toArray, List.getElem?_cons_succ, List.getElem?_cons_zero]; rfl) (by rfl) ?_; dsimp only [Act.put]; simp only [List.setIfInBounds_toArray, List.set_cons_succ, List.set_cons_zero]) | (refine tree_quiet (by simp only [List.getElem?_toArray, List.getElem?_cons_succ, List.getElem?_cons_zero]; rfl) (by rfl) (by rfl) (fun K_ hK_ => ?_); go_big_quiet_op; refine hK_ _ ?_; clear hK_ K_)
        first | (refine tree_skip (by simp only [List.getElem?_toArray, List.getElem?_cons_succ, List.getElem?_cons_zero]; rfl) (by rfl) ?_; dsimp only [Act.put]; simp only [List.setIfInBounds_toArray, List.set_cons_succ, List.set_cons_zero]) | (refine tree_quiet (by simp only [List.getElem?_toArray, List.getElem?_cons_succ, List.getElem?_cons_zero]; rfl) (by rfl) (by rfl) (fun K_ hK_ => ?_); go_big_quiet_op; refine hK_ _ ?_; clear hK_ K_)
        first | (refine tree_skip (by simp only [List.getElem?_toArray, List.getElem?_cons_succ, List.getElem?_cons_zero]; rfl) (by rfl) ?_; dsimp only [Act.put]; simp only [List.setIfInBounds_toArray, List.set_cons_succ, List.set_cons_zero]) | (refine tree_quiet (by simp only [List.getElem?_toArray, List.getElem?_cons_succ, List.getElem?_cons_zero]; rfl) (by rfl) (by rfl) (fun K_ hK_ => ?_); go_big_quiet_op; refine hK_ _ ?_; clear hK_ K_)
        first | (refine tree_skip (by simp only [List.getElem?_toArray, List.getElem?_cons_succ, List.getElem?_cons_zero]; rfl) (by rfl) ?_; dsimp only [Act.put]; simp only [List.setIfInBounds_toArray, List.set_cons_succ, List.set_cons_zero]) | (refine tree_quiet (by simp only [List.getElem?_toArray, List.getElem?_cons_succ, List.getElem?_cons_zero]; rfl) (by rfl) (by rfl) (fun K_ hK_ => ?_); go_big_quiet_op; refine hK_ _ ?_; clear hK_ K_)
        first | (refine tree_skip (by simp only [List.getElem?_toArray, List.getElem?_cons_succ, List.getElem?_cons_zero]; rfl) (by rfl) ?_; dsimp only [Act.put]; simp only [List.setIfInBounds_toArray, List.set_cons_succ, List.set_cons_zero]) | (refine tree_quiet (by simp only [List.getElem?_toArray, List.getElem?_cons_succ, List.getElem?_cons_zero]; rfl) (by rfl) (by rfl) (fun K_ hK_ => ?_); go_big_quiet_op; refine hK_ _ ?_; clear hK_ K_)
        refine tree_skip (by simp only [List.getElem?_toArray, List.getElem?_cons_succ, List.getElem?_cons_zero]; rfl) (by rfl) ?_; dsimp only [Act.put]; simp only [List.setIfInBounds_toArray, List.set_cons_succ, List.set_cons_zero]
        (refine tree_quiet (by simp only [List.getElem?_toArray, List.getElem?_cons_succ, List.getElem?_cons_zero]; rfl) (by rfl) (by rfl) (fun K_ hK_ => ?_); go_big_quiet_op; refine hK_ _ ?_; clear hK_ K_)
        refine tree_nil ?_
        clear hG_
        go_wp2_with fail
        go_roundw
        case rel => exact ⟨k + 1, false, HLT.out, by go_num, rfl, HST.out, HBR.out.drew⟩
        case measure => simp [intOf]; have := HLT.out; omega
      · have d1 : decide ((r.last : Int) < (r.first : Int)) = false := by simp; omega
        have d2 : decide (r.last < r.first) = false := by simp; omega
        by_cases hk0 : k = 0
        · have HST := Lib.hid (show okk = true ↔ okb = true ∧ ∀ i, i < k + 1 → goodR rs i from by
            rw [HOK.out]
            refine ⟨fun hx => ⟨hx.1, fun i hi r' hr' => ?_⟩, fun hx => ⟨hx.1, fun i hi => (by omega)⟩⟩
            obtain rfl : i = k := by omega
            rw [hr] at hr'
            cases hr'
            exact ⟨by omega, fun q hq => (by omega)⟩)
          have d3 : decide (0 < (k : Int)) = false := by simp; omega
          have d4 : decide (0 < k) = false := by simp; omega
          subst hap
          clear hr g0 g1 hhw hk0
          generalize r.first = f at *
          generalize r.last = l at *
          go_wp2_with fail
          refine wp_region_tree (.step 0 (.step 1 (.step 2 (.step 3 (.step 4 (.step 5 (.step 6 (.step 7 (.step 8 (.step 9 (.step 10 (.step 11 (.step 12 (.step 13 (.step 14 (.step 15 (.step 16 (.step 17 (.step 18 (.step 19 (.step 20 (.step 21 (.step 22 (.step 23 (.step 24 (.step 25 (.step 26 (.step 27 (.step 28 .nil))))))))))))))))))))))))))))) (by kernel_rfl) (by kernel_rfl) (by kernel_rfl) (by kernel_rfl) (by intro _ _ d_ _ _ h_; cases d_ <;> first | exact h_ | (dsimp +zetaDelta only at h_ ⊢; exact h_)) (fun w' => ∃ p : Wld wr [], w' = p.val) (wld_start _ _) ?_
          have hG_ := @wldC wr
          (refine tree_quiet (by simp only [List.getElem?_toArray, List.getElem?_cons_succ, List.getElem?_cons_zero]; rfl) (by rfl) (by rfl) (fun K_ hK_ => ?_); go_big_quiet_op; refine hK_ _ ?_; clear hK_ K_)
          (refine tree_quiet (by simp only [List.getElem?_toArray, List.getElem?_cons_succ, List.getElem?_cons_zero]; rfl) (by rfl) (by rfl) (fun K_ hK_ => ?_); go_big_quiet_op; refine hK_ _ ?_; clear hK_ K_)
          (refine tree_quiet (by simp only [List.getElem?_toArray, List.getElem?_cons_succ, List.getElem?_cons_zero]; rfl) (by rfl) (by rfl) (fun K_ hK_ => ?_); go_big_quiet_op; refine hK_ _ ?_; clear hK_ K_)
          (refine tree_quiet (by simp only [List.getElem?_toArray, List.getElem?_cons_succ, List.getElem?_cons_zero]; rfl) (by rfl) (by rfl) (fun K_ hK_ => ?_); go_big_quiet_op; refine hK_ _ ?_; clear hK_ K_)
          (refine tree_quiet (by simp only [List.getElem?_toArray, List.getElem?_cons_succ, List.getElem?_cons_zero]; rfl) (by rfl) (by rfl) (fun K_ hK_ => ?_); go_big_quiet_op; refine hK_ _ ?_; clear hK_ K_)
          (refine tree_quiet (by simp only [List.getElem?_toArray, List.getElem?_cons_succ, List.getElem?_cons_zero]; rfl) (by rfl) (by rfl) (fun K_ hK_ => ?_); go_big_quiet_op; refine hK_ _ ?_; clear hK_ K_)
          (refine tree_quiet (by simp only [List.getElem?_toArray, List.getElem?_cons_succ, List.getElem?_cons_zero]; rfl) (by rfl) (by rfl) (fun K_ hK_ => ?_); go_big_quiet_op; refine hK_ _ ?_; clear hK_ K_)
          (refine tree_quiet (by simp only [List.getElem?_toArray, List.getElem?_cons_succ, List.getElem?_cons_zero]; rfl) (by rfl) (by rfl) (fun K_ hK_ => ?_); go_big_quiet_op; refine hK_ _ ?_; clear hK_ K_)
          (refine tree_quiet (by simp only [List.getElem?_toArray, List.getElem?_cons_succ, List.getElem?_cons_zero]; rfl) (by rfl) (by rfl) (fun K_ hK_ => ?_); go_big_quiet_op; refine hK_ _ ?_; clear hK_ K_)
          (refine tree_quiet (by simp only [List.getElem?_toArray, List.getElem?_cons_succ, List.getElem?_cons_zero]; rfl) (by rfl) (by rfl) (fun K_ hK_ => ?_); go_big_quiet_op; refine hK_ _ ?_; clear hK_ K_)
          (refine tree_quiet (by simp only [List.getElem?_toArray, List.getElem?_cons_succ, List.getElem?_cons_zero]; rfl) (by rfl) (by rfl) (fun K_ hK_ => ?_); go_big_quiet_op; refine hK_ _ ?_; clear hK_ K_)
          (refine tree_quiet (by simp only [List.getElem?_toArray, List.getElem?_cons_succ, List.getElem?_cons_zero]; rfl) (by rfl) (by rfl) (fun K_ hK_ => ?_); go_big_quiet_op; refine hK_ _ ?_; clear hK_ K_)
          (refine tree_quiet (by simp only [List.getElem?_toArray, List.getElem?_cons_succ, List.getElem?_cons_zero]; rfl) (by rfl) (by rfl) (fun K_ hK_ => ?_); go_big_quiet_op; refine hK_ _ ?_; clear hK_ K_)
          (refine tree_quiet (by simp only [List.getElem?_toArray, List.getElem?_cons_succ, List.getElem?_cons_zero]; rfl) (by rfl) (by rfl) (fun K_ hK_ => ?_); go_big_quiet_op; refine hK_ _ ?_; clear hK_ K_)
          (refine tree_quiet (by simp only [List.getElem?_toArray, List.getElem?_cons_succ, List.getElem?_cons_zero]; rfl) (by rfl) (by rfl) (fun K_ hK_ => ?_); go_big_quiet_op; refine hK_ _ ?_; clear hK_ K_)
          refine tree_skip (by simp only [List.getElem?_toArray, List.getElem?_cons_succ, List.getElem?_cons_zero]; rfl) (by rfl) ?_; dsimp only [Act.put]; simp only [List.setIfInBounds_toArray, List.set_cons_succ, List.set_cons_zero]
          refine tree_skip (by simp only [List.getElem?_toArray, List.getElem?_cons_succ, List.getElem?_cons_zero]; rfl) (by rfl) ?_; dsimp only [Act.put]; simp only [List.setIfInBounds_toArray, List.set_cons_succ, List.set_cons_zero]
          refine tree_skip (by simp only [List.getElem?_toArray, List.getElem?_cons_succ, List.getElem?_cons_zero]; rfl) (by rfl) ?_; dsimp only [Act.put]; simp only [List.setIfInBounds_toArray, List.set_cons_succ, List.set_cons_zero]
          refine tree_skip (by simp only [List.getElem?_toArray, List.getElem?_cons_succ, List.getElem?_cons_zero]; rfl) (by rfl) ?_; dsimp only [Act.put]; simp only [List.setIfInBounds_toArray, List.set_cons_succ, List.set_cons_zero]
          refine tree_skip (by simp only [List.getElem?_toArray, List.getElem?_cons_succ, List.getElem?_cons_zero]; rfl) (by rfl) ?_; dsimp only [Act.put]; simp only [List.setIfInBounds_toArray, List.set_cons_succ, List.set_cons_zero]
          refine tree_skip (by simp only [List.getElem?_toArray, List.getElem?_cons_succ, List.getElem?_cons_zero]; rfl) (by rfl) ?_; dsimp only [Act.put]; simp only [List.setIfInBounds_toArray, List.set_cons_succ, List.set_cons_zero]
          refine tree_skip (by simp only [List.getElem?_toArray, List.getElem?_cons_succ, List.getElem?_cons_zero]; rfl) (by rfl) ?_; dsimp only [Act.put]; simp only [List.setIfInBounds_toArray, List.set_cons_succ, List.set_cons_zero]
          refine tree_skip (by simp only [List.getElem?_toArray, List.getElem?_cons_succ, List.getElem?_cons_zero]; rfl) (by rfl) ?_; dsimp only [Act.put]; simp only [List.setIfInBounds_toArray, List.set_cons_succ, List.set_cons_zero]
          refine tree_skip (by simp only [List.getElem?_toArray, List.getElem?_cons_succ, List.getElem?_cons_zero]; rfl) (by rfl) ?_; dsimp only [Act.put]; simp only [List.setIfInBounds_toArray, List.set_cons_succ, List.set_cons_zero]
          refine tree_skip (by simp only [List.getElem?_toArray, List.getElem?_cons_succ, List.getElem?_cons_zero]; rfl) (by rfl) ?_; dsimp only [Act.put]; simp only [List.setIfInBounds_toArray, List.set_cons_succ, List.set_cons_zero]
          refine tree_skip (by simp only [List.getElem?_toArray, List.getElem?_cons_succ, List.getElem?_cons_zero]; rfl) (by rfl) ?_; dsimp only [Act.put]; simp only [List.setIfInBounds_toArray, List.set_cons_succ, List.set_cons_zero]
          refine tree_skip (by simp only [List.getElem?_toArray, List.getElem?_cons_succ, List.getElem?_cons_zero]; rfl) (by rfl) ?_; dsimp only [Act.put]; simp only [List.setIfInBounds_toArray, List.set_cons_succ, List.set_cons_zero]
          (refine tree_quiet (by simp only [List.getElem?_toArray, List.getElem?_cons_succ, List.getElem?_cons_zero]; rfl) (by rfl) (by rfl) (fun K_ hK_ => ?_); go_big_quiet_op; refine hK_ _ ?_; clear hK_ K_)
          (refine tree_quiet (by simp only [List.getElem?_toArray, List.getElem?_cons_succ, List.getElem?_cons_zero]; rfl) (by rfl) (by rfl) (fun K_ hK_ => ?_); go_big_quiet_op; refine hK_ _ ?_; clear hK_ K_)
          refine tree_nil ?_
          clear hG_
          go_wp2_with fail
          go_roundw
          case rel => exact ⟨k + 1, okk, HLT.out, by go_num, rfl, HST.out, HBR.out.drew⟩
          case measure => simp [intOf]; have := HLT.out; omega
        · obtain ⟨m, hm⟩ : ∃ m, k = m + 1 := ⟨k - 1, by omega⟩
          have hkm : (k : Int) - 1 = (m : Int) := by omega
          obtain ⟨r', hr'⟩ : ∃ r', rs[m]? = some r' := ⟨_, List.getElem?_eq_getElem (by rw [HLL.out]; omega)⟩
          have g3 := encRs_get rs m _ hr' 1 (by omega)
          simp only [encR, List.getElem?_cons_zero, List.getElem?_cons_succ] at g3
          have k3 : wr.cell? ⟨(p.add (m * 5)).block, (p.add (m * 5)).off + 1, none⟩ = some (.int .i64 (r'.last : Nat)) := by
            rw [add_next]
            obtain ⟨x, hx, hc⟩ := hhw _ _ g3
            rw [hap] at hx; cases hx; exact hc
          have kb3 : (p.add (m * 5)).block < wr.heap.size := by have := cell_lt k3; simpa using this
          have hGD : goodR rs k ↔ r'.last < r.first := by
            constructor
            · intro hg
              exact (hg r hr).2 r' (by omega) (by rw [hm]; exact hr')
            · intro hx x hx2
              rw [hr] at hx2
              cases hx2
              refine ⟨by omega, fun q _ hq => ?_⟩
              rw [hm] at hq
              have : rs[m]? = some q := hq
              rw [hr'] at this
              cases this
              exact hx
          have d3 : decide (0 < (k : Int)) = true := by simp; omega
          have d4 : decide (0 < k) = true := by simp; omega
          have hmL : m < L := by omega
          by_cases hpl : r'.last < r.first
          · have HST := Lib.hid (show okk = true ↔ okb = true ∧ ∀ i, i < k + 1 → goodR rs i from by
              rw [HOK.out]
              refine ⟨fun hx => ⟨hx.1, fun i hi => ?_⟩, fun hx => ⟨hx.1, fun i hi => hx.2 i (by omega)⟩⟩
              rcases Nat.lt_or_ge i k with hl | hl
              · exact hx.2 i hl
              · obtain rfl : i = k := by omega
                exact hGD.2 hpl)
            have d5 : decide ((r.first : Int) ≤ (r'.last : Int)) = false := by simp; omega
            have d6 : decide (r.first ≤ r'.last) = false := by simp; omega
            subst hap
            clear hr g0 g1 hhw hk0 hr' g3 hGD hm
            generalize r.first = f at *
            generalize r.last = l at *
            generalize r'.last = pl at *
            go_wp2_with fail
            refine wp_region_tree (.step 0 (.step 1 (.step 2 (.step 3 (.step 4 (.step 5 (.step 6 (.step 7 (.step 8 (.step 9 (.step 10 (.step 11 (.step 12 (.step 13 (.step 14 (.step 15 (.step 16 (.step 17 (.step 18 (.step 19 (.step 20 (.step 21 (.step 22 (.step 23 (.step 24 (.step 25 (.step 26 (.step 27 (.step 28 .nil))))))))))))))))))))))))))))) (by kernel_rfl) (by kernel_rfl) (by kernel_rfl) (by kernel_rfl) (by intro _ _ d_ _ _ h_; cases d_ <;> first | exact h_ | (dsimp +zetaDelta only at h_ ⊢; exact h_)) (fun w' => ∃ p : Wld wr [], w' = p.val) (wld_start _ _) ?_
            have hG_ := @wldC wr
            (refine tree_quiet (by simp only [List.getElem?_toArray, List.getElem?_cons_succ, List.getElem?_cons_zero]; rfl) (by rfl) (by rfl) (fun K_ hK_ => ?_); go_big_quiet_op; refine hK_ _ ?_; clear hK_ K_)
            (refine tree_quiet (by simp only [List.getElem?_toArray, List.getElem?_cons_succ, List.getElem?_cons_zero]; rfl) (by rfl) (by rfl) (fun K_ hK_ => ?_); go_big_quiet_op; refine hK_ _ ?_; clear hK_ K_)
            (refine tree_quiet (by simp only [List.getElem?_toArray, List.getElem?_cons_succ, List.getElem?_cons_zero]; rfl) (by rfl) (by rfl) (fun K_ hK_ => ?_); go_big_quiet_op; refine hK_ _ ?_; clear hK_ K_)
            (refine tree_quiet (by simp only [List.getElem?_toArray, List.getElem?_cons_succ, List.getElem?_cons_zero]; rfl) (by rfl) (by rfl) (fun K_ hK_ => ?_); go_big_quiet_op; refine hK_ _ ?_; clear hK_ K_)
            (refine tree_quiet (by simp only [List.getElem?_toArray, List.getElem?_cons_succ, List.getElem?_cons_zero]; rfl) (by rfl) (by rfl) (fun K_ hK_ => ?_); go_big_quiet_op; refine hK_ _ ?_; clear hK_ K_)
            (refine tree_quiet (by simp only [List.getElem?_toArray, List.getElem?_cons_succ, List.getElem?_cons_zero]; rfl) (by rfl) (by rfl) (fun K_ hK_ => ?_); go_big_quiet_op; refine hK_ _ ?_; clear hK_ K_)
            (refine tree_quiet (by simp only [List.getElem?_toArray, List.getElem?_cons_succ, List.getElem?_cons_zero]; rfl) (by rfl) (by rfl) (fun K_ hK_ => ?_); go_big_quiet_op; refine hK_ _ ?_; clear hK_ K_)
            (refine tree_quiet (by simp only [List.getElem?_toArray, List.getElem?_cons_succ, List.getElem?_cons_zero]; rfl) (by rfl) (by rfl) (fun K_ hK_ => ?_); go_big_quiet_op; refine hK_ _ ?_; clear hK_ K_)
            (refine tree_quiet (by simp only [List.getElem?_toArray, List.getElem?_cons_succ, List.getElem?_cons_zero]; rfl) (by rfl) (by rfl) (fun K_ hK_ => ?_); go_big_quiet_op; refine hK_ _ ?_; clear hK_ K_)
            (refine tree_quiet (by simp only [List.getElem?_toArray, List.getElem?_cons_succ, List.getElem?_cons_zero]; rfl) (by rfl) (by rfl) (fun K_ hK_ => ?_); go_big_quiet_op; refine hK_ _ ?_; clear hK_ K_)
            (refine tree_quiet (by simp only [List.getElem?_toArray, List.getElem?_cons_succ, List.getElem?_cons_zero]; rfl) (by rfl) (by rfl) (fun K_ hK_ => ?_); go_big_quiet_op; refine hK_ _ ?_; clear hK_ K_)
            (refine tree_quiet (by simp only [List.getElem?_toArray, List.getElem?_cons_succ, List.getElem?_cons_zero]; rfl) (by rfl) (by rfl) (fun K_ hK_ => ?_); go_big_quiet_op; refine hK_ _ ?_; clear hK_ K_)
            (refine tree_quiet (by simp only [List.getElem?_toArray, List.getElem?_cons_succ, List.getElem?_cons_zero]; rfl) (by rfl) (by rfl) (fun K_ hK_ => ?_); go_big_quiet_op; refine hK_ _ ?_; clear hK_ K_)
            (refine tree_quiet (by simp only [List.getElem?_toArray, List.getElem?_cons_succ, List.getElem?_cons_zero]; rfl) (by rfl) (by rfl) (fun K_ hK_ => ?_); go_big_quiet_op; refine hK_ _ ?_; clear hK_ K_)
            (refine tree_quiet (by simp only [List.getElem?_toArray, List.getElem?_cons_succ, List.getElem?_cons_zero]; rfl) (by rfl) (by rfl) (fun K_ hK_ => ?_); go_big_quiet_op; refine hK_ _ ?_; clear hK_ K_)
            (refine tree_quiet (by simp only [List.getElem?_toArray, List.getElem?_cons_succ, List.getElem?_cons_zero]; rfl) (by rfl) (by rfl) (fun K_ hK_ => ?_); go_big_quiet_op; refine hK_ _ ?_; clear hK_ K_)
            (refine tree_quiet (by simp only [List.getElem?_toArray, List.getElem?_cons_succ, List.getElem?_cons_zero]; rfl) (by rfl) (by rfl) (fun K_ hK_ => ?_); go_big_quiet_op; refine hK_ _ ?_; clear hK_ K_)
            (refine tree_quiet (by simp only [List.getElem?_toArray, List.getElem?_cons_succ, List.getElem?_cons_zero]; rfl) (by rfl) (by rfl) (fun K_ hK_ => ?_); go_big_quiet_op; refine hK_ _ ?_; clear hK_ K_)
            (refine tree_quiet (by simp only [List.getElem?_toArray, List.getElem?_cons_succ, List.getElem?_cons_zero]; rfl) (by rfl) (by rfl) (fun K_ hK_ => ?_); go_big_quiet_op; refine hK_ _ ?_; clear hK_ K_)
            (refine tree_quiet (by simp only [List.getElem?_toArray, List.getElem?_cons_succ, List.getElem?_cons_zero]; rfl) (by rfl) (by rfl) (fun K_ hK_ => ?_); go_big_quiet_op; refine hK_ _ ?_; clear hK_ K_)
            (refine tree_quiet (by simp only [List.getElem?_toArray, List.getElem?_cons_succ, List.getElem?_cons_zero]; rfl) (by rfl) (by rfl) (fun K_ hK_ => ?_); go_big_quiet_op; refine hK_ _ ?_; clear hK_ K_)
            (refine tree_quiet (by simp only [List.getElem?_toArray, List.getElem?_cons_succ, List.getElem?_cons_zero]; rfl) (by rfl) (by rfl) (fun K_ hK_ => ?_); go_big_quiet_op; refine hK_ _ ?_; clear hK_ K_)
            (refine tree_quiet (by simp only [List.getElem?_toArray, List.getElem?_cons_succ, List.getElem?_cons_zero]; rfl) (by rfl) (by rfl) (fun K_ hK_ => ?_); go_big_quiet_op; refine hK_ _ ?_; clear hK_ K_)
            (refine tree_quiet (by simp only [List.getElem?_toArray, List.getElem?_cons_succ, List.getElem?_cons_zero]; rfl) (by rfl) (by rfl) (fun K_ hK_ => ?_); go_big_quiet_op; refine hK_ _ ?_; clear hK_ K_)
            (refine tree_quiet (by simp only [List.getElem?_toArray, List.getElem?_cons_succ, List.getElem?_cons_zero]; rfl) (by rfl) (by rfl) (fun K_ hK_ => ?_); go_big_quiet_op; refine hK_ _ ?_; clear hK_ K_)
            (refine tree_quiet (by simp only [List.getElem?_toArray, List.getElem?_cons_succ, List.getElem?_cons_zero]; rfl) (by rfl) (by rfl) (fun K_ hK_ => ?_); go_big_quiet_op; refine hK_ _ ?_; clear hK_ K_)
            (refine tree_quiet (by simp only [List.getElem?_toArray, List.getElem?_cons_succ, List.getElem?_cons_zero]; rfl) (by rfl) (by rfl) (fun K_ hK_ => ?_); go_big_quiet_op; refine hK_ _ ?_; clear hK_ K_)
            (refine tree_quiet (by simp only [List.getElem?_toArray, List.getElem?_cons_succ, List.getElem?_cons_zero]; rfl) (by rfl) (by rfl) (fun K_ hK_ => ?_); go_big_quiet_op; refine hK_ _ ?_; clear hK_ K_)
            (refine tree_quiet (by simp only [List.getElem?_toArray, List.getElem?_cons_succ, List.getElem?_cons_zero]; rfl) (by rfl) (by rfl) (fun K_ hK_ => ?_); go_big_quiet_op; refine hK_ _ ?_; clear hK_ K_)
            refine tree_nil ?_
            clear hG_
            go_wp2_with fail
            go_roundw
            case rel => exact ⟨k + 1, okk, HLT.out, by go_num, rfl, HST.out, HBR.out.drew⟩
            case measure => simp [intOf]; have := HLT.out; omega
          · have HST := Lib.hid (show false = true ↔ okb = true ∧ ∀ i, i < k + 1 → goodR rs i from ⟨fun hx => (by cases hx), fun hx => absurd (hGD.1 (hx.2 k (Nat.lt_succ_self k))) hpl⟩)
            have d5 : decide ((r.first : Int) ≤ (r'.last : Int)) = true := by simp; omega
            have d6 : decide (r.first ≤ r'.last) = true := by simp; omega
            subst hap
            clear hr g0 g1 hhw hk0 hr' g3 hGD hm
            generalize r.first = f at *
            generalize r.last = l at *
            generalize r'.last = pl at *
            go_wp2_with fail
            refine wp_region_tree (.step 0 (.step 1 (.step 2 (.step 3 (.step 4 (.step 5 (.step 6 (.step 7 (.step 8 (.step 9 (.step 10 (.step 11 (.step 12 (.step 13 (.step 14 (.step 15 (.step 16 (.step 17 (.step 18 (.step 19 (.step 20 (.step 21 (.step 22 (.step 23 (.step 24 (.step 25 (.step 26 (.step 27 (.step 28 .nil))))))))))))))))))))))))))))) (by kernel_rfl) (by kernel_rfl) (by kernel_rfl) (by kernel_rfl) (by intro _ _ d_ _ _ h_; cases d_ <;> first | exact h_ | (dsimp +zetaDelta only at h_ ⊢; exact h_)) (fun w' => ∃ p : Wld wr [], w' = p.val) (wld_start _ _) ?_
            have hG_ := @wldC wr
            (refine tree_quiet (by simp only [List.getElem?_toArray, List.getElem?_cons_succ, List.getElem?_cons_zero]; rfl) (by rfl) (by rfl) (fun K_ hK_ => ?_); go_big_quiet_op; refine hK_ _ ?_; clear hK_ K_)
            (refine tree_quiet (by simp only [List.getElem?_toArray, List.getElem?_cons_succ, List.getElem?_cons_zero]; rfl) (by rfl) (by rfl) (fun K_ hK_ => ?_); go_big_quiet_op; refine hK_ _ ?_; clear hK_ K_)
            (refine tree_quiet (by simp only [List.getElem?_toArray, List.getElem?_cons_succ, List.getElem?_cons_zero]; rfl) (by rfl) (by rfl) (fun K_ hK_ => ?_); go_big_quiet_op; refine hK_ _ ?_; clear hK_ K_)
            (refine tree_quiet (by simp only [List.getElem?_toArray, List.getElem?_cons_succ, List.getElem?_cons_zero]; rfl) (by rfl) (by rfl) (fun K_ hK_ => ?_); go_big_quiet_op; refine hK_ _ ?_; clear hK_ K_)
            (refine tree_quiet (by simp only [List.getElem?_toArray, List.getElem?_cons_succ, List.getElem?_cons_zero]; rfl) (by rfl) (by rfl) (fun K_ hK_ => ?_); go_big_quiet_op; refine hK_ _ ?_; clear hK_ K_)
            (refine tree_quiet (by simp only [List.getElem?_toArray, List.getElem?_cons_succ, List.getElem?_cons_zero]; rfl) (by rfl) (by rfl) (fun K_ hK_ => ?_); go_big_quiet_op; refine hK_ _ ?_; clear hK_ K_)
            (refine tree_quiet (by simp only [List.getElem?_toArray, List.getElem?_cons_succ, List.getElem?_cons_zero]; rfl) (by rfl) (by rfl) (fun K_ hK_ => ?_); go_big_quiet_op; refine hK_ _ ?_; clear hK_ K_)
            (refine tree_quiet (by simp only [List.getElem?_toArray, List.getElem?_cons_succ, List.getElem?_cons_zero]; rfl) (by rfl) (by rfl) (fun K_ hK_ => ?_); go_big_quiet_op; refine hK_ _ ?_; clear hK_ K_)
            (refine tree_quiet (by simp only [List.getElem?_toArray, List.getElem?_cons_succ, List.getElem?_cons_zero]; rfl) (by rfl) (by rfl) (fun K_ hK_ => ?_); go_big_quiet_op; refine hK_ _ ?_; clear hK_ K_)
            (refine tree_quiet (by simp only [List.getElem?_toArray, List.getElem?_cons_succ, List.getElem?_cons_zero]; rfl) (by rfl) (by rfl) (fun K_ hK_ => ?_); go_big_quiet_op; refine hK_ _ ?_; clear hK_ K_)
            (refine tree_quiet (by simp only [List.getElem?_toArray, List.getElem?_cons_succ, List.getElem?_cons_zero]; rfl) (by rfl) (by rfl) (fun K_ hK_ => ?_); go_big_quiet_op; refine hK_ _ ?_; clear hK_ K_)
            (refine tree_quiet (by simp only [List.getElem?_toArray, List.getElem?_cons_succ, List.getElem?_cons_zero]; rfl) (by rfl) (by rfl) (fun K_ hK_ => ?_); go_big_quiet_op; refine hK_ _ ?_; clear hK_ K_)
            (refine tree_quiet (by simp only [List.getElem?_toArray, List.getElem?_cons_succ, List.getElem?_cons_zero]; rfl) (by rfl) (by rfl) (fun K_ hK_ => ?_); go_big_quiet_op; refine hK_ _ ?_; clear hK_ K_)
            (refine tree_quiet (by simp only [List.getElem?_toArray, List.getElem?_cons_succ, List.getElem?_cons_zero]; rfl) (by rfl) (by rfl) (fun K_ hK_ => ?_); go_big_quiet_op; refine hK_ _ ?_; clear hK_ K_)
            (refine tree_quiet (by simp only [List.getElem?_toArray, List.getElem?_cons_succ, List.getElem?_cons_zero]; rfl) (by rfl) (by rfl) (fun K_ hK_ => ?_); go_big_quiet_op; refine hK_ _ ?_; clear hK_ K_)
            (refine tree_quiet (by simp only [List.getElem?_toArray, List.getElem?_cons_succ, List.getElem?_cons_zero]; rfl) (by rfl) (by rfl) (fun K_ hK_ => ?_); go_big_quiet_op; refine hK_ _ ?_; clear hK_ K_)
            (refine tree_quiet (by simp only [List.getElem?_toArray, List.getElem?_cons_succ, List.getElem?_cons_zero]; rfl) (by rfl) (by rfl) (fun K_ hK_ => ?_); go_big_quiet_op; refine hK_ _ ?_; clear hK_ K_)
            (refine tree_quiet (by simp only [List.getElem?_toArray, List.getElem?_cons_succ, List.getElem?_cons_zero]; rfl) (by rfl) (by rfl) (fun K_ hK_ => ?_); go_big_quiet_op; refine hK_ _ ?_; clear hK_ K_)
            (refine tree_quiet (by simp only [List.getElem?_toArray, List.getElem?_cons_succ, List.getElem?_cons_zero]; rfl) (by rfl) (by rfl) (fun K_ hK_ => ?_); go_big_quiet_op; refine hK_ _ ?_; clear hK_ K_)
            (refine tree_quiet (by simp only [List.getElem?_toArray, List.getElem?_cons_succ, List.getElem?_cons_zero]; rfl) (by rfl) (by rfl) (fun K_ hK_ => ?_); go_big_quiet_op; refine hK_ _ ?_; clear hK_ K_)
            (refine tree_quiet (by simp only [List.getElem?_toArray, List.getElem?_cons_succ, List.getElem?_cons_zero]; rfl) (by rfl) (by rfl) (fun K_ hK_ => ?_); go_big_quiet_op; refine hK_ _ ?_; clear hK_ K_)
            (refine tree_quiet (by simp only [List.getElem?_toArray, List.getElem?_cons_succ, List.getElem?_cons_zero]; rfl) (by rfl) (by rfl) (fun K_ hK_ => ?_); go_big_quiet_op; refine hK_ _ ?_; clear hK_ K_)
            (refine tree_quiet (by simp only [List.getElem?_toArray, List.getElem?_cons_succ, List.getElem?_cons_zero]; rfl) (by rfl) (by rfl) (fun K_ hK_ => ?_); go_big_quiet_op; refine hK_ _ ?_; clear hK_ K_)
            (refine tree_quiet (by simp only [List.getElem?_toArray, List.getElem?_cons_succ, List.getElem?_cons_zero]; rfl) (by rfl) (by rfl) (fun K_ hK_ => ?_); go_big_quiet_op; refine hK_ _ ?_; clear hK_ K_)
            (refine tree_quiet (by simp only [List.getElem?_toArray, List.getElem?_cons_succ, List.getElem?_cons_zero]; rfl) (by rfl) (by rfl) (fun K_ hK_ => ?_); go_big_quiet_op; refine hK_ _ ?_; clear hK_ K_)
            (refine tree_quiet (by simp only [List.getElem?_toArray, List.getElem?_cons_succ, List.getElem?_cons_zero]; rfl) (by rfl) (by rfl) (fun K_ hK_ => ?_); go_big_quiet_op; refine hK_ _ ?_; clear hK_ K_)
            (refine tree_quiet (by simp only [List.getElem?_toArray, List.getElem?_cons_succ, List.getElem?_cons_zero]; rfl) (by rfl) (by rfl) (fun K_ hK_ => ?_); go_big_quiet_op; refine hK_ _ ?_; clear hK_ K_)
            (refine tree_quiet (by simp only [List.getElem?_toArray, List.getElem?_cons_succ, List.getElem?_cons_zero]; rfl) (by rfl) (by rfl) (fun K_ hK_ => ?_); go_big_quiet_op; refine hK_ _ ?_; clear hK_ K_)
            (refine tree_quiet (by simp only [List.getElem?_toArray, List.getElem?_cons_succ, List.getElem?_cons_zero]; rfl) (by rfl) (by rfl) (fun K_ hK_ => ?_); go_big_quiet_op; refine hK_ _ ?_; clear hK_ K_)
            refine tree_nil ?_
            clear hG_
            go_wp2_with fail
            go_roundw
            case rel => exact ⟨k + 1, false, HLT.out, by go_num, rfl, HST.out, HBR.out.drew⟩
            case measure => simp [intOf]; have := HLT.out; omega
    · obtain rfl : k = L := by omega
      have c6 := cell_of_heap ((HBR.out.block w.heap.size hl6).trans HC6.out)
      have f6 := fun o => froz_of_heap ((HBR.out.block w.heap.size hl6).trans HC6.out) o
      have c60 := c6 0
      have c61 := c6 1
      simp only [List.getElem?_toArray, List.getElem?_cons_zero, List.getElem?_cons_succ] at c60 c61
      have hl7 : w.heap.size < wr.heap.size := cell_lt c60
      have HBX := Lib.hid (HB1.out.trans (HBR.out.mono HB1.out.size))
      have HHR := Lib.hid (HH1.out.below HBR.out)
      have HAP := Lib.hid (encRs_apart HHR.out ((HBR.out.block w.heap.size hl6).trans HC6.out) (fun z => by simp) (fun z => by simp))
      have HSZ := Lib.hid (show LkRows bs glyphs size rs → ∀ r ∈ rs, 1 ≤ r.size from fun hr r hm => by have := (hr.each hg2 hS).2 r hm; omega)
      clear c6
      cases okk with
      | true =>
        obtain ⟨hb1, hgood⟩ := HOK.out.1 rfl
        obtain ⟨hrw, hfz⟩ := HPP.out.1 hb1
        rw [← HL.out] at hfz
        have HLK := Lib.hid (show LkOk bs glyphs size rs from ⟨hrw, (okR_good bs rs (HSZ.out hrw)).2 ⟨fun i hi => hgood i (by rw [← HLL.out]; exact hi), hfz⟩⟩)
        clear hb1 hgood hrw hfz
        go_wp2_with fail
        refine bodyPost_ret (v := .tuple #[.agg #[.slice a n c, .slice a1 k c1], .bool true]) (by simp [results, Try.results42, go_sem, c60, c61, f6]) rfl ?_
        refine ⟨.inl ⟨rs, a1, c1, HLK.out, by rw [HLL.out], has_set (has_set HHR.out HAP.out _) HAP.out _, by rw [HLL.out]; exact q1, q2, by rw [HLL.out]; exact q3⟩, bset (bset HBX.out (Nat.le_refl _) _) (Nat.le_refl _) _⟩
      | false =>
        have HNO := Lib.hid (show ∀ rs', ¬ LkOk bs glyphs size rs' from fun rs' hx => by
          cases hbb : okb with
          | false => exact HPP.out.2 hbb rs' hx
          | true =>
            obtain ⟨hrw, _⟩ := HPP.out.1 hbb
            obtain rfl := hx.rows.det hrw
            have := HOK.out.2 ⟨hbb, fun i hi => ((okR_good bs rs' (HSZ.out hrw)).1 hx.ok).1 i (by rw [HLL.out]; exact hi)⟩
            cases this)
        go_wp2_with fail
        refine bodyPost_ret (v := .tuple #[.agg #[.slice none 0 0, .slice none 0 0], .bool false]) (by simp [results, Try.results42, go_sem, c60, c61, f6]) rfl ?_
        exact ⟨.inr ⟨HNO.out, rfl⟩, bset (bset HBX.out (Nat.le_refl _) _) (Nat.le_refl _) _⟩
end Go.Proofs.Ythepejljgolcoaa
