
/- The walk of SwapParts. SwapParts returns true for every bytes, and any two lines, and changes nothing: what a subtable of single glyphs makes of a line is what it makes of its parts, one behind the other; turned, it is turned. No condition beside the row's own. -/
import Derived.Test.YtcegoenlajkgfaaJ18
import Derived.Test.YtcegoenlajkgfaaJ17
namespace Go.Proofs.Ytcegoenlajkgfaa
open Go.RowKit Go.Lib

theorem GIs.stepS {B g c : Nat} {a : Option Addr} {l l' : List (Int × Int)} {w w' : World} (h : GStep B g a a w w') (hg : GIs B g a c l w) (hg' : GIs B g a c l' w') (hl : l'.length = l.length) : KeepC B (ownS (a.map (·.block))) w w' := h.keepS hg hg' hl rfl h.below.size
set_option maxRecDepth 100000 in
set_option maxHeartbeats 6400000 in
theorem swapParts_walk (a : Option Addr) (n c : Nat) (bs : List UInt8) (al : Option Addr) (nl cl : Nat) (l : List (Int × Int)) (am : Option Addr) (nm cm : Nat) (m : List (Int × Int)) (w : World) (h : Has w a (bytesV bs)) (hl : bs.length = n) (hn : n ≤ c) (hc : c ≤ maxLen)
    (hh : Has w al (gv l)) (hll : l.length = nl) (hA : al = none → cl = 0) (hids : ∀ p ∈ l, -9223372036854775808 ≤ p.1 ∧ p.1 ≤ 9223372036854775807)
    (hhm : Has w am (gv m)) (hlm : m.length = nm) (hAm : am = none → cm = 0) (hidm : ∀ p ∈ m, -9223372036854775808 ≤ p.1 ∧ p.1 ≤ 9223372036854775807) :
    Calls Try.prog 8 #[.slice a n c, .slice al nl cl, .slice am nm cm] w fun e w' => e = .returned (.bool true) ∧ Below w.heap.size w w' := by
  have hAC := allocC
  have hAF := allocF
  have HSP := Lib.hid (fun W => speaks16_any W)
  have HBG := Lib.hid (fun W => big16_any a n c al nl cl W)
  have HBM := Lib.hid (fun W => big16_any a n c am nm cm W)
  have HH := Lib.hid h
  have HL := Lib.hid hl
  have HHL := Lib.hid hh
  have HLL := Lib.hid hll
  have HA := Lib.hid hA
  have HID := Lib.hid hids
  have HHM := Lib.hid hhm
  have HLM := Lib.hid hlm
  have HAM := Lib.hid hAm
  have HIM := Lib.hid hidm
  clear h hl hh hll hA hids hhm hlm hAm hidm
  by_cases hbig : 600 < n ∨ 60 < nl
  · have hb : (decide (600 < n) || decide (60 < nl)) = true := by simpa using hbig
    rw [hb] at HBG
    clear hbig hb
    go_enter Try.func8, Try.ntmps8
    go_wp2_with (first | (go_at_call 28; (with_reducible refine (HSP.out _).mono ?_); rintro e w1 ⟨rfl, hb1⟩; have h1c := bc hb1; have h1f := bf hb1; have h1z := hb1.size; try simp only [World.size_alloc, World.size_drew] at h1z) | (go_at_call 29; (with_reducible refine (HBG.out _).mono ?_); rintro e w2 ⟨rfl, hb2⟩; have h2c := bc hb2; have h2f := bf hb2; have h2z := hb2.size; try simp only [World.size_alloc, World.size_drew] at h2z))
    go_ret
    exact ⟨rfl, blw⟩
  have hb : (decide (600 < n) || decide (60 < nl)) = false := by simp; omega
  rw [hb] at HBG
  have hn6 : n ≤ 600 := by omega
  have hnl6 : nl ≤ 60 := by omega
  clear hbig hb
  by_cases hbig : 60 < nm
  · have hb : (decide (600 < n) || decide (60 < nm)) = true := by simp; omega
    rw [hb] at HBM
    clear hbig hb
    go_enter Try.func8, Try.ntmps8
    go_wp2_with (first | (go_at_call 28; (with_reducible refine (HSP.out _).mono ?_); rintro e w1 ⟨rfl, hb1⟩; have h1c := bc hb1; have h1f := bf hb1; have h1z := hb1.size; try simp only [World.size_alloc, World.size_drew] at h1z) | (go_at_call 29; (with_reducible refine (HBG.out _).mono ?_); rintro e w2 ⟨rfl, hb2⟩; have h2c := bc hb2; have h2f := bf hb2; have h2z := hb2.size; try simp only [World.size_alloc, World.size_drew] at h2z) | (go_at_call 29; (with_reducible refine (HBM.out _).mono ?_); rintro e w3 ⟨rfl, hb3⟩; have h3c := bc hb3; have h3f := bf hb3; have h3z := hb3.size; try simp only [World.size_alloc, World.size_drew] at h3z))
    go_ret
    exact ⟨rfl, blw⟩
  have hb : (decide (600 < n) || decide (60 < nm)) = false := by simp; omega
  rw [hb] at HBM
  have hnm6 : nm ≤ 60 := by omega
  clear hbig hb
  by_cases hok : ∃ rs, LkOk bs 40 2 rs
  case neg =>
    have hno : ∀ rs, ¬ LkOk bs 40 2 rs := fun rs ho => hok ⟨rs, ho⟩
    have HRN := Lib.hid (fun W (hW : Below w.heap.size w W) => swread_none a n c bs 40 40 rfl W (HH.out.below hW) HL.out hn hc (by decide) (by decide) hno)
    clear hok hno
    go_enter Try.func8, Try.ntmps8
    go_wp2_with (first | (go_at_call 28; (with_reducible refine (HSP.out _).mono ?_); rintro e w1 ⟨rfl, hb1⟩; have h1c := bc hb1; have h1f := bf hb1; have h1z := hb1.size; try simp only [World.size_alloc, World.size_drew] at h1z) | (go_at_call 29; (with_reducible refine (HBG.out _).mono ?_); rintro e w2 ⟨rfl, hb2⟩; have h2c := bc hb2; have h2f := bf hb2; have h2z := hb2.size; try simp only [World.size_alloc, World.size_drew] at h2z) | (go_at_call 29; (with_reducible refine (HBM.out _).mono ?_); rintro e w3 ⟨rfl, hb3⟩; have h3c := bc hb3; have h3f := bf hb3; have h3z := hb3.size; try simp only [World.size_alloc, World.size_drew] at h3z) | (go_at_call 30; (with_reducible refine (HRN.out _ (by exact blw)).mono ?_); rintro e w4 ⟨rfl, hb4⟩; have h4c := bc hb4; have h4f := bf hb4; have h4z := hb4.size; try simp only [World.size_alloc, World.size_drew] at h4z))
    go_ret
    exact ⟨rfl, blw⟩
  obtain ⟨rs, hok⟩ := hok
  have HRS := Lib.hid (fun W (hW : Below w.heap.size w W) => swread_some a n c bs 40 40 rfl rs W (HH.out.below hW) HL.out hn hc (by decide) (by decide) hok)
  have hfit := hok.fit (by decide) (.inl rfl)
  have HRUN := Lib.hid (fun (Bt gx gl : Nat) (al : Option Addr) (c : Nat) (l : List (Int × Int)) (W : World) (hT : SwIs Bt gx bs rs W) (hG : GIs w.heap.size gl al c l W) (hB : w.heap.size ≤ W.heap.size) (hi : ∀ p ∈ l, -9223372036854775808 ≤ p.1 ∧ p.1 ≤ 9223372036854775807) (hl : l.length ≤ 1000) => swrun_any Bt gx bs rs w.heap.size gl al c l W hT hfit hG hB hi (by omega))
  obtain ⟨f, hf⟩ : ∃ f, f = lkR bs rs := ⟨_, rfl⟩
  rw [← hf] at HRUN
  clear hok hfit hf
  have HLN := Lib.hid (show (l ++ m).length = nl + nm by rw [List.length_append, HLL.out, HLM.out])
  have HIB := Lib.hid (show ∀ p ∈ (l ++ m).reverse, -9223372036854775808 ≤ p.1 ∧ p.1 ≤ 9223372036854775807 from fun p hp => by
    rw [List.mem_reverse, List.mem_append] at hp
    rcases hp with hp | hp
    · exact HID.out p hp
    · exact HIM.out p hp)
  have HSE := Lib.hid (show (swapL f (l ++ m).reverse).reverse = swapL f l ++ swapL f m by simp [swapL])
  have HSX := Lib.hid (show (swapL f l).length = nl by rw [swapL_length, HLL.out])
  have HSY := Lib.hid (show (swapL f m).length = nm by rw [swapL_length, HLM.out])
  have HSZ := Lib.hid (show (swapL f l ++ swapL f m).length = nl + nm by rw [List.length_append, HSX.out, HSY.out])
  have HGX := Lib.hid (fun g a6 c6 W (hG : GIs w.heap.size g a6 c6 (swapL f l) W) => HSX.out ▸ gglyphs_any w.heap.size g a6 c6 _ W hG (by rw [HSX.out]; omega))
  have HGY := Lib.hid (fun g a6 c6 W (hG : GIs w.heap.size g a6 c6 (swapL f m) W) => HSY.out ▸ gglyphs_any w.heap.size g a6 c6 _ W hG (by rw [HSY.out]; omega))
  have HGZ := Lib.hid (fun g a6 c6 W (hG : GIs w.heap.size g a6 c6 (swapL f l ++ swapL f m) W) => HSZ.out ▸ gglyphs_any w.heap.size g a6 c6 _ W hG (by rw [HSZ.out]; omega))
  go_enter Try.func8, Try.ntmps8
  go_wp2_with (first
    | (go_at_call 28; (with_reducible refine (HSP.out _).mono ?_); rintro e w1 ⟨rfl, hb1⟩; have h1c := bc hb1; have h1f := bf hb1; have h1z := hb1.size; try simp only [World.size_alloc, World.size_drew] at h1z)
    | (go_at_call 29; (with_reducible refine (HBG.out _).mono ?_); rintro e w2 ⟨rfl, hb2⟩; have h2c := bc hb2; have h2f := bf hb2; have h2z := hb2.size; try simp only [World.size_alloc, World.size_drew] at h2z)
    | (go_at_call 29; (with_reducible refine (HBM.out _).mono ?_); rintro e w3 ⟨rfl, hb3⟩; have h3c := bc hb3; have h3f := bf hb3; have h3z := hb3.size; try simp only [World.size_alloc, World.size_drew] at h3z)
    | (go_at_call 30; (with_reducible refine (HRS.out _ (by exact blw)).mono ?_); rintro e w4 ⟨gt, rfl, hT, hb4⟩; have HT4 := Lib.hid hT; have h4z := hb4.size; have HB4 := Lib.hid (show Below w.heap.size w w4 from by exact blw); clear hT)
    | (go_at_call 33; (with_reducible refine (gof_any al nl cl l w4 (HHL.out.below HB4.out) HLL.out (by omega)).mono ?_); rintro e w5 ⟨gx, ax, cx, rfl, hG, hgx, hb5⟩; have HX5 := Lib.hid (hG.mono HB4.out.size); have HB5 := Lib.hid (HB4.out.trans (hb5.mono HB4.out.size)); have HT5 := Lib.hid (HT4.out.below hb5); clear hG hb5)
    | (go_at_call 33; (with_reducible refine (gof_any am nm cm m w5 (HHM.out.below HB5.out) HLM.out (by omega)).mono ?_); rintro e w6 ⟨gy, ay, cy, rfl, hG, hgy, hb6⟩; have HXY := Lib.hid (show ∀ k, ay.map (·.block) = some k → ax.map (·.block) ≠ some k from fun k hk hx => by have h1 := (hG.rowIn k hk).1; have h2 := (HX5.out.rowIn k hx).2; omega); have HX6 := Lib.hid (HX5.out.below hb6); have HY6 := Lib.hid (hG.mono HB5.out.size); have HB6 := Lib.hid (HB5.out.trans (hb6.mono HB5.out.size)); have HT6 := Lib.hid (HT5.out.below hb6); clear hG hb6)
    | (at_builtin
       refine wpAppGn rfl _ _ rfl w6.heap.size _ [] l 0 rfl rfl (GRow.lit w6 [] _ (Nat.le_refl _) (Nat.zero_le _) #[] rfl) al nl cl rfl HLL.out ((HHL.out.below HB6.out).below (balloc (brefl _) _)) HA.out (by omega) (by simp) ?_
       intro a7 c7 w7 hg7 hb7
       rw [Nat.zero_add, List.nil_append] at *
       have HG7 := Lib.hid hg7
       have HB67 := Lib.hid ((balloc (brefl w6) _).trans hb7)
       have HB7 := Lib.hid (HB6.out.trans (HB67.out.mono HB6.out.size))
       clear hg7 hb7)
    | (at_builtin
       refine wpAppGn rfl _ _ rfl w6.heap.size _ l m nl HLL.out rfl HG7.out am nm cm rfl HLM.out (HHM.out.below HB7.out) HAM.out (by omega) HB67.out.size ?_
       intro a8 c8 w8 hg8 hb8
       have hb68 := HB67.out.trans hb8
       have HH8 := Lib.hid (has_of_owns (hg8.own HLN.out))
       have HX8 := Lib.hid (HX6.out.below hb68)
       have HY8 := Lib.hid (HY6.out.below hb68)
       have HT8 := Lib.hid (HT6.out.below hb68)
       have HB8 := Lib.hid (HB6.out.trans (hb68.mono HB6.out.size))
       clear hg8 hb8 hb68)
    | (go_at_call 33
       (with_reducible refine (gof_any a8 (nl + nm) c8 (l ++ m) w8 HH8.out HLN.out (by omega)).mono ?_)
       rintro e w9 ⟨gz, az, cz, rfl, hG, hgz, hb9⟩
       have HXZ := Lib.hid (show ∀ k, az.map (·.block) = some k → ax.map (·.block) ≠ some k from fun k hk hx => by have h1 := (hG.rowIn k hk).1; have h2 := (HX8.out.rowIn k hx).2; omega)
       have HYZ := Lib.hid (show ∀ k, az.map (·.block) = some k → ay.map (·.block) ≠ some k from fun k hk hx => by have h1 := (hG.rowIn k hk).1; have h2 := (HY8.out.rowIn k hx).2; omega)
       have HX9 := Lib.hid (HX8.out.below hb9)
       have HY9 := Lib.hid (HY8.out.below hb9)
       have HZ9 := Lib.hid (hG.mono HB8.out.size)
       have HT9 := Lib.hid (HT8.out.below hb9)
       have HB9 := Lib.hid (HB8.out.trans (hb9.mono HB8.out.size))
       clear hG hb9)
    | (go_at_call 34
       (with_reducible refine (HRUN.out _ _ gx _ _ l w9 HT9.out HX9.out HB9.out.size HID.out (by rw [HLL.out]; omega)).mono ?_)
       rintro e w10 ⟨rfl, hG, hk⟩
       have HX10 := Lib.hid hG
       have HY10 := Lib.hid (HY9.out.keepS2 hk HXY.out)
       have HZ10 := Lib.hid (HZ9.out.keepS2 hk HXZ.out)
       have HT10 := Lib.hid (HT9.out.keep hk)
       have HB10 := Lib.hid (HB9.out.trans hk.below)
       clear hG hk)
    | (go_at_call 34
       (with_reducible refine (HRUN.out _ _ gy _ _ m w10 HT10.out HY10.out HB10.out.size HIM.out (by rw [HLM.out]; omega)).mono ?_)
       rintro e w11 ⟨rfl, hG, hk⟩
       have HX11 := Lib.hid (HX10.out.keepS2 hk fun k hk hx => HXY.out k hx hk)
       have HY11 := Lib.hid hG
       have HZ11 := Lib.hid (HZ10.out.keepS2 hk HYZ.out)
       have HT11 := Lib.hid (HT10.out.keep hk)
       have HB11 := Lib.hid (HB10.out.trans hk.below)
       clear hG hk)
    | (go_at_call 35
       (with_reducible refine (gturn_any w.heap.size gz az cz (l ++ m) w11 HZ11.out (by rw [HLN.out]; omega)).mono ?_)
       rintro e w12 ⟨rfl, hG, hs⟩
       have hk := GIs.stepS hs HZ11.out hG (by rw [List.length_reverse])
       have HX12 := Lib.hid (HX11.out.keepS2 hk fun k hk hx => HXZ.out k hx hk)
       have HY12 := Lib.hid (HY11.out.keepS2 hk fun k hk hx => HYZ.out k hx hk)
       have HZ12 := Lib.hid hG
       have HT12 := Lib.hid (HT11.out.keep hk)
       have HB12 := Lib.hid (HB11.out.trans hk.below)
       clear hG hs hk)
    | (go_at_call 34
       (with_reducible refine (HRUN.out _ _ gz _ _ (l ++ m).reverse w12 HT12.out HZ12.out HB12.out.size HIB.out (by rw [List.length_reverse, HLN.out]; omega)).mono ?_)
       rintro e w13 ⟨rfl, hG, hk⟩
       have HX13 := Lib.hid (HX12.out.keepS2 hk fun k hk hx => HXZ.out k hx hk)
       have HY13 := Lib.hid (HY12.out.keepS2 hk fun k hk hx => HYZ.out k hx hk)
       have HZ13 := Lib.hid hG
       have HB13 := Lib.hid (HB12.out.trans hk.below)
       clear hG hk)
    | (go_at_call 35
       (with_reducible refine (gturn_any w.heap.size gz az cz (swapL f (l ++ m).reverse) w13 HZ13.out (by rw [swapL_length, List.length_reverse, HLN.out]; omega)).mono ?_)
       rintro e w14 ⟨rfl, hG, hs⟩
       have hk := GIs.stepS hs HZ13.out hG (by rw [List.length_reverse])
       rw [HSE.out] at hG
       have HX14 := Lib.hid (HX13.out.keepS2 hk fun k hk hx => HXZ.out k hx hk)
       have HY14 := Lib.hid (HY13.out.keepS2 hk fun k hk hx => HYZ.out k hx hk)
       have HZ14 := Lib.hid hG
       have HB14 := Lib.hid (HB13.out.trans hk.below)
       clear hG hs hk)
    | (go_at_call 21; (with_reducible refine (HGZ.out gz az cz w14 HZ14.out).mono ?_); rintro e w15 ⟨a15, c15, rfl, ho, _, _, _, hb⟩; have HH15 := Lib.hid (has_of_owns ho); have HX15 := Lib.hid (HX14.out.below hb); have HY15 := Lib.hid (HY14.out.below hb); have HB15 := Lib.hid (HB14.out.trans (hb.mono HB14.out.size)); clear ho hb)
    | (go_at_call 21; (with_reducible refine (HGX.out gx ax cx w15 HX15.out).mono ?_); rintro e w16 ⟨a16, c16, rfl, ho, _, _, _, hb⟩; have HO16 := Lib.hid ho; have HB1516 := Lib.hid hb; have HY16 := Lib.hid (HY15.out.below hb); have HB16 := Lib.hid (HB15.out.trans (hb.mono HB15.out.size)); have hz16 := hb.size; clear ho hb)
    | (go_at_call 21; (with_reducible refine (HGY.out gy ay cy w16 HY16.out).mono ?_); rintro e w17 ⟨a17, c17, rfl, ho, _, _, hA17, hb⟩; have HO17 := Lib.hid (owns_below HO16.out hb (Nat.le_refl _)); have HM17 := Lib.hid (has_of_owns ho); have HB1517 := Lib.hid (HB1516.out.trans (hb.mono HB1516.out.size)); have HB17 := Lib.hid (HB16.out.trans (hb.mono HB16.out.size)); have HA17 := Lib.hid hA17; have hz17 := hb.size; clear ho hb hA17)
    | (at_builtin
       refine wpAppGn rfl _ _ rfl w15.heap.size _ (swapL f l) (swapL f m) nl HSX.out rfl (show GRow w15.heap.size (swapL f l) (.slice a16 nl c16) w17 from ⟨a16, c16, by rw [HSX.out], by rw [HSX.out]; exact HO17.out⟩) a17 nm c17 rfl HSY.out HM17.out HA17.out (by omega) (by omega) ?_
       intro a18 c18 w18 hg18 hb18
       have HH18 := Lib.hid (HH15.out.below (HB1517.out.trans hb18))
       have HM18 := Lib.hid (has_of_owns (hg18.own HSZ.out))
       have HB18 := Lib.hid (HB17.out.trans (hb18.mono HB15.out.size))
       clear hg18 hb18)
    | (go_at_call 22; (with_reducible refine (refSameG_any _ _ (nl + nm) _ (nl + nm) _ _ _ w18 HH18.out HSZ.out HM18.out HSZ.out (by omega) (by omega)).mono ?_); rintro e w19 ⟨rfl, hb⟩; rw [decide_eq_true rfl]; have HB19 := Lib.hid (HB18.out.trans (hb.mono HB18.out.size)); clear hb))
  go_ret
  exact ⟨rfl, HB19.out⟩

open Go.ChangeShapes Go.WideShapes Go.ChangeAt Go.RowKit
open Go.ChangeMaps (open_string shut_string)

set_option maxRecDepth 100000 in
theorem swapParts_walks (H : Type) (enc : TypeId × Value → H) : Walks H enc 8 [22, 51, 51] := by
  intro W base args ds p hval hA _
  obtain ⟨v0, vs0, d0, ds0, p0, q0, hargs, rfl, rfl, h0, r0⟩ := trodAll_cons hA
  obtain ⟨v1, vs1, d1, ds1, p1, q1, rfl, rfl, rfl, h1, r1⟩ := trodAll_cons r0
  obtain ⟨v2, vs2, d2, ds2, p2, q2, rfl, rfl, rfl, h2, r2⟩ := trodAll_cons r1
  obtain ⟨rfl, rfl, rfl⟩ := trodAll_nil r2
  obtain rfl : args = #[v0, v1, v2] := by cases args; simp_all
  obtain ⟨a0, n0, c0, x0, rfl, e0, f0, g0, j0, k0⟩ := open_bytes Try.underlying22 Try.underlying5 (by kernel_rfl) (hval 0 22 v0 rfl rfl) h0
  obtain ⟨a1, n1, c1, l1, rfl, hl1, _, _, hn1, hh1, hw1⟩ := open_glyphsW (hval 1 51 v1 rfl rfl) h1
  obtain ⟨a2, n2, c2, l2, rfl, hl2, _, _, hn2, hh2, hw2⟩ := open_glyphsW (hval 2 51 v2 rfl rfl) h2
  exact swapParts_walk a0 n0 c0 x0 a1 n1 c1 l1 a2 n2 c2 l2 W e0 f0 g0 j0 hh1 hl1 hn1 (fun p hp => (hw1 p hp).1) hh2 hl2 hn2 (fun p hp => (hw2 p hp).1)

set_option maxRecDepth 100000 in
theorem swapParts_lifted (os : Os) (started : os.Started) (H : Type) (enc : TypeId × Value → H) :
    ReturnsInHanded {} Try.checked os 8 .any (Rows.swapPartsSpec.pre6 enc Try.prog Try.f8 Rows.swapPartsRow.domain false) (Rows.swapPartsSpec.post enc Try.prog Try.f8 false true false false) :=
  lift_law (s := Rows.swapPartsSpec) (fn := Try.f8) started (by kernel_rfl) Try.func8
    (ChangeSpec.witness6 (enc := enc) (C := Try.checked) false ⟨#[], #[.slice none 0 0, .slice none 0 0, .slice none 0 0], []⟩ 8 (by kernel_rfl) (by kernel_rfl) (by kernel_rfl) (by kernel_rfl))
    rfl rfl (fun ds h => by match ds, h with | [d0, d1, d2], _ => rfl) (by intro t ht; simp [Try.params8] at ht; first | (subst ht; exact ⟨by kernel_rfl, of_decide_eq_true (by kernel_rfl)⟩) | (obtain rfl | rfl := ht <;> exact ⟨by kernel_rfl, of_decide_eq_true (by kernel_rfl)⟩) | (obtain rfl | rfl | rfl := ht <;> exact ⟨by kernel_rfl, of_decide_eq_true (by kernel_rfl)⟩) | (obtain rfl | rfl | rfl | rfl := ht <;> exact ⟨by kernel_rfl, of_decide_eq_true (by kernel_rfl)⟩))
    (by rw [Try.params8]; exact swapParts_walks H enc)
theorem swapParts_over : Rows.swapPartsRow.holds Try.pinned (OpenSpec.ofChange Rows.swapPartsSpec) :=
  OpenClaim.holds_of_wide 8 Try.f8 rfl rfl rfl rfl rfl rfl rfl ⟨rfl, rfl, rfl, rfl, rfl⟩ rfl rfl rfl rfl rfl (by kernel_rfl) Try.func8 (by kernel_rfl)
    (of_decide_eq_true (by kernel_rfl)) (by unfold Func.isWrapper; first | (rw [if_pos (by decide +kernel)]; kernel_rfl) | (rw [if_neg (by decide +kernel)]; exact ⟨rfl, rfl⟩))
    (fun os started H enc _ => swapParts_lifted os started H enc)
theorem swapParts_proved : Rows.SwapPartsSaid := swapParts_over
#print axioms swapParts_proved
end Go.Proofs.Ytcegoenlajkgfaa
