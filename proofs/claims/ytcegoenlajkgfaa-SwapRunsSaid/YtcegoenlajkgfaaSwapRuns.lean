
/- The walk of SwapRuns. SwapRuns returns true for every bytes, any number of glyphs, and every line, and changes nothing: any bytes begin with a subtable of single glyphs, or not, and each glyph of any line becomes the document's. No condition beside the row's own. -/
import Derived.Test.YtcegoenlajkgfaaJ18
import Derived.Test.YtcegoenlajkgfaaJ17
namespace Go.Proofs.Ytcegoenlajkgfaa
open Go.RowKit Go.Lib

set_option maxRecDepth 100000 in
set_option maxHeartbeats 6400000 in
theorem swapRuns_walk (a : Option Addr) (n c : Nat) (bs : List UInt8) (z : Int) (al : Option Addr) (nl cl : Nat) (l : List (Int × Int)) (w : World) (h : Has w a (bytesV bs)) (hl : bs.length = n) (hn : n ≤ c) (hc : c ≤ maxLen) (hz : -9223372036854775808 ≤ z ∧ z ≤ 9223372036854775807)
    (hh : Has w al (gv l)) (hll : l.length = nl) (hA : al = none → cl = 0) (hids : ∀ p ∈ l, -9223372036854775808 ≤ p.1 ∧ p.1 ≤ 9223372036854775807) :
    Calls Try.prog 7 #[.slice a n c, .int .i64 z, .slice al nl cl] w fun e w' => e = .returned (.bool true) ∧ Below w.heap.size w w' := by
  have hAC := allocC
  have hAF := allocF
  have HSP := Lib.hid (fun W => speaks16_any W)
  have HBG := Lib.hid (fun W => big16_any a n c al nl cl W)
  have HH := Lib.hid h
  have HL := Lib.hid hl
  have HHL := Lib.hid hh
  have HLL := Lib.hid hll
  have HA := Lib.hid hA
  have HID := Lib.hid hids
  by_cases hbig : 600 < n ∨ 60 < nl
  · have hb : (decide (600 < n) || decide (60 < nl)) = true := by simpa using hbig
    rw [hb] at HBG
    clear h hl hh hll hA hids hbig hb
    go_enter Try.func7, Try.ntmps7
    go_wp2_with (first | (go_at_call 28; (with_reducible refine (HSP.out _).mono ?_); rintro e w1 ⟨rfl, hb1⟩; have h1c := bc hb1; have h1f := bf hb1; have h1z := hb1.size; try simp only [World.size_alloc, World.size_drew] at h1z) | (go_at_call 29; (with_reducible refine (HBG.out _).mono ?_); rintro e w2 ⟨rfl, hb2⟩; have h2c := bc hb2; have h2f := bf hb2; have h2z := hb2.size; try simp only [World.size_alloc, World.size_drew] at h2z))
    go_ret
    exact ⟨rfl, blw⟩
  have hb : (decide (600 < n) || decide (60 < nl)) = false := by simp; omega
  rw [hb] at HBG
  have hn6 : n ≤ 600 := by omega
  have hnl6 : nl ≤ 60 := by omega
  have HRA := Lib.hid (fun W (hW : Below w.heap.size w W) => swread_any a n c bs z W (h.below hW) hl hn hc hz)
  clear h hl hh hll hA hids hbig hb
  by_cases harg : z < 1 ∨ 65535 < z
  · have HRB := Lib.hid (fun W (hW : Below w.heap.size w W) => (HRA.out W hW).mono (R' := fun e w' => e = .returned (.tuple #[.pointer none, .int .i64 1]) ∧ Below W.heap.size W w') (by
      rintro e w' ⟨(⟨_, he⟩ | ⟨h1, h2, _⟩ | ⟨h1, h2, _⟩), hb⟩
      · exact ⟨he, hb⟩
      · omega
      · omega))
    by_cases h1 : z < 1
    · have d1 : decide (z < 1) = true := by simpa using h1
      clear harg h1
      go_enter Try.func7, Try.ntmps7
      go_wp2_with (first | (go_at_call 28; (with_reducible refine (HSP.out _).mono ?_); rintro e w1 ⟨rfl, hb1⟩; have h1c := bc hb1; have h1f := bf hb1; have h1z := hb1.size; try simp only [World.size_alloc, World.size_drew] at h1z) | (go_at_call 29; (with_reducible refine (HBG.out _).mono ?_); rintro e w2 ⟨rfl, hb2⟩; have h2c := bc hb2; have h2f := bf hb2; have h2z := hb2.size; try simp only [World.size_alloc, World.size_drew] at h2z) | (go_at_call 30; (with_reducible refine (HRB.out _ (by exact blw)).mono ?_); rintro e w3 ⟨rfl, hb3⟩; have h3c := bc hb3; have h3f := bf hb3; have h3z := hb3.size; try simp only [World.size_alloc, World.size_drew] at h3z))
      go_ret
      exact ⟨rfl, blw⟩
    · have d1 : decide (z < 1) = false := by simpa using h1
      have d2 : decide (65535 < z) = true := by simp; omega
      clear harg h1
      go_enter Try.func7, Try.ntmps7
      go_wp2_with (first | (go_at_call 28; (with_reducible refine (HSP.out _).mono ?_); rintro e w1 ⟨rfl, hb1⟩; have h1c := bc hb1; have h1f := bf hb1; have h1z := hb1.size; try simp only [World.size_alloc, World.size_drew] at h1z) | (go_at_call 29; (with_reducible refine (HBG.out _).mono ?_); rintro e w2 ⟨rfl, hb2⟩; have h2c := bc hb2; have h2f := bf hb2; have h2z := hb2.size; try simp only [World.size_alloc, World.size_drew] at h2z) | (go_at_call 30; (with_reducible refine (HRB.out _ (by exact blw)).mono ?_); rintro e w3 ⟨rfl, hb3⟩; have h3c := bc hb3; have h3f := bf hb3; have h3z := hb3.size; try simp only [World.size_alloc, World.size_drew] at h3z))
      go_ret
      exact ⟨rfl, blw⟩
  have d1 : decide (z < 1) = false := by simp; omega
  have d2 : decide (65535 < z) = false := by simp; omega
  obtain ⟨gl, rfl⟩ : ∃ g : Nat, z = g := ⟨z.toNat, by omega⟩
  have hg1 : 1 ≤ gl := by omega
  have hg2 : gl ≤ 65535 := by omega
  clear harg HRA
  by_cases hok : ∃ rs, LkOk bs gl 2 rs
  case neg =>
    have hno : ∀ rs, ¬ LkOk bs gl 2 rs := fun rs ho => hok ⟨rs, ho⟩
    have HRN := Lib.hid (fun W (hW : Below w.heap.size w W) => swread_none a n c bs gl (gl : Int) rfl W (HH.out.below hW) HL.out hn hc hg1 hg2 hno)
    have HRF := Lib.hid (fun W (hW : Below w.heap.size w W) => reflk_no a n c bs gl (gl : Int) rfl W (HH.out.below hW) HL.out hn hc (by omega) hg1 hg2 hno)
    clear hok hno
    go_enter Try.func7, Try.ntmps7
    go_wp2_with (first | (go_at_call 28; (with_reducible refine (HSP.out _).mono ?_); rintro e w1 ⟨rfl, hb1⟩; have h1c := bc hb1; have h1f := bf hb1; have h1z := hb1.size; try simp only [World.size_alloc, World.size_drew] at h1z) | (go_at_call 29; (with_reducible refine (HBG.out _).mono ?_); rintro e w2 ⟨rfl, hb2⟩; have h2c := bc hb2; have h2f := bf hb2; have h2z := hb2.size; try simp only [World.size_alloc, World.size_drew] at h2z) | (go_at_call 30; (with_reducible refine (HRN.out _ (by exact blw)).mono ?_); rintro e w3 ⟨rfl, hb3⟩; have h3c := bc hb3; have h3f := bf hb3; have h3z := hb3.size; try simp only [World.size_alloc, World.size_drew] at h3z) | (go_at_call 31; (with_reducible refine (HRF.out _ (by exact blw)).mono ?_); rintro e w4 ⟨rfl, hb4⟩; have h4c := bc hb4; have h4f := bf hb4; have h4z := hb4.size; try simp only [World.size_alloc, World.size_drew] at h4z))
    go_ret
    exact ⟨rfl, blw⟩
  obtain ⟨rs, hok⟩ := hok
  have HOK := Lib.hid hok
  have HRS := Lib.hid (fun W (hW : Below w.heap.size w W) => swread_some a n c bs gl (gl : Int) rfl rs W (HH.out.below hW) HL.out hn hc hg1 hg2 hok)
  have hrf := fun W (hW : Below w.heap.size w W) => reflk_yes a n c bs gl (gl : Int) rfl rs W (HH.out.below hW) HL.out hn hc (by omega) hg1 hg2 hok
  obtain ⟨L, hL⟩ : ∃ L, L = rs.length := ⟨_, rfl⟩
  rw [← hL] at hrf
  have HLR := Lib.hid hL
  have HRF := Lib.hid hrf
  clear hL hrf
  clear hok
  go_enter Try.func7, Try.ntmps7
  go_wp2_with (first
    | (go_at_call 28; (with_reducible refine (HSP.out _).mono ?_); rintro e w1 ⟨rfl, hb1⟩; have h1c := bc hb1; have h1f := bf hb1; have h1z := hb1.size; try simp only [World.size_alloc, World.size_drew] at h1z)
    | (go_at_call 29; (with_reducible refine (HBG.out _).mono ?_); rintro e w2 ⟨rfl, hb2⟩; have h2c := bc hb2; have h2f := bf hb2; have h2z := hb2.size; try simp only [World.size_alloc, World.size_drew] at h2z)
    | (go_at_call 30; (with_reducible refine (HRS.out _ (by exact blw)).mono ?_); rintro e w3 ⟨gx, rfl, hT, hb3⟩; have HT := Lib.hid hT; have h3z := hb3.size; have HB3 := Lib.hid (show Below w.heap.size w w3 from by exact blw); clear hT)
    | (go_at_call 31; (with_reducible refine (HRF.out w3 HB3.out).mono ?_); rintro e w4 ⟨a4, c4, rfl, hr4, hb4⟩; have HR4 := Lib.hid hr4; have HT4 := Lib.hid (HT.out.below hb4); have HB4 := Lib.hid (HB3.out.trans (hb4.mono HB3.out.size)); clear hr4 hb4)
    | (at_builtin
       obtain ⟨V, hV⟩ : ∃ V, V = w4.alloc (Obj.cells #[.slice a n c, .slice a4 L c4] 40) := ⟨_, rfl⟩
       have hbV : Below w4.heap.size w4 V := by rw [hV]; exact balloc (brefl w4) _
       have x9 : V.heap[w4.heap.size]? = some (.cells #[.slice a n c, .slice a4 L c4] 40 (0, 0)) := by rw [hV]; exact (heap_push _ _ _).trans (if_pos rfl)
       have hzV : w4.heap.size + 1 = V.heap.size := by rw [hV]; simp
       rw [← hV]
       have HBV := Lib.hid (HB4.out.trans (hbV.mono HB4.out.size))
       have HTV := Lib.hid (HT4.out.below hbV)
       have HRV := Lib.hid (HR4.out.below hbV)
       have X9 := Lib.hid x9
       have l9 := (Array.getElem?_eq_some_iff.1 x9).1
       clear hV hbV x9
       go_loud (refine wpAppGn rfl _ _ rfl V.heap.size _ [] l 0 rfl rfl (GRow.litAt V [] V.heap.size (w4.heap.size + 1) hzV (Nat.le_refl _) (Nat.zero_le _) #[] rfl) al nl cl rfl HLL.out (HHL.out.below (HBV.out.trans ((balloc (brefl V) _).mono HBV.out.size))) HA.out (by omega) (by simp) ?_)
       intro a5 c5 w5 hg5 hb5
       rw [Nat.zero_add, List.nil_append] at *
       have HO5 := Lib.hid (hg5.own HLL.out)
       have HB5 := Lib.hid ((balloc (brefl V) _).trans hb5)
       clear hg5 hb5 hzV))
  have hvz := HBV.out.size
  go_loopw [65] (fun i wr => ∃ j : Nat, j ≤ nl ∧ i = .int .i64 (j : Nat) ∧ wr.ownsRow V.heap.size 57 2 (.slice a5 nl c5) nl (gv (swapP (lkR bs rs) l j)) ∧ Below V.heap.size V wr) (fun i _ => nl - (RowKit.intOf i).toNat)
  case atStart => exact ⟨0, Nat.zero_le _, rfl, by rw [swapP_zero]; exact HO5.out, HB5.out⟩
  case round =>
    obtain ⟨j, hj, rfl, ho, hb⟩ := hrel
    rename World => wr
    have HO := Lib.hid ho
    have HBR := Lib.hid hb
    have hzr := hb.size
    have hwr := HBV.out.trans (hb.mono hvz)
    have x9 := (hb.block _ l9).trans X9.out
    clear ho hb
    by_cases hlt : j < nl
    · obtain ⟨gi, oi, p, rfl, hgi, hp, hc1, hc2⟩ := gv_at (HHL.out.below hwr) (k := j) (by rw [HLL.out]; exact hlt)
      have hidp := HID.out p (List.mem_of_getElem? hp)
      have hlkg := fun W (hW : Below wr.heap.size wr W) => reflkget a n c bs gl a4 c4 rs p.1 W ((HH.out.below hwr).below hW) HL.out (by omega) ((HRV.out.below HBR.out).below hW) hg2 HOK.out hidp
      rw [← HLR.out] at hlkg
      have hpp := swapP_get (lkR bs rs) l j p hp
      obtain ⟨g5, p', rfl, hg5, hg5z, hp', e1, e2, f1, f2, hset, _⟩ := grow_at HO.out (by rw [swapP_length]; exact HLL.out) hlt
      obtain rfl : p = p' := by rw [hpp] at hp'; injection hp'
      have hstep := swapP_set (lkR bs rs) l j p hp
      have hsame := swapP_same (lkR bs rs) l j p hp
      obtain ⟨p1, p2⟩ := p
      simp only at hc1 hc2 hidp hlkg e1 e2 hset
      have HGT := Lib.hid hlkg
      have q9 := fun o => cell_of_heap x9 o
      have l9r := (Array.getElem?_eq_some_iff.1 x9).1
      unfold swap1 at hstep hsame
      simp only at hstep hsame
      generalize lkR bs rs p1 = q at *
      obtain ⟨q1, q2⟩ := q
      simp only at HGT hstep hsame
      have hpp2 := hpp
      clear hlkg hpp hp hp' x9 hwr hidp e2 f2 hset
      have HPP := Lib.hid hpp2
      clear hpp2
      cases q2 with
      | false =>
        have HS := Lib.hid (hsame (by split <;> simp))
        clear hstep hsame
        go_wp2_with (go_at_call 32; (with_reducible refine (HGT.out _ (by exact blw)).mono ?_); rintro e w6 ⟨rfl, hb6⟩)
        have hb6' : Below wr.heap.size wr w6 := (by exact blw)
        refine ⟨⟨j + 1, hlt, by go_num, by rw [HS.out]; exact owns_below HO.out hb6' (Nat.le_refl _), HBR.out.trans (hb6'.mono hzr)⟩, ?_⟩
        simp only [RowKit.intOf]; omega
      | true =>
        by_cases h5 : p1 = 65535
        · have HS := Lib.hid (hsame (by rw [if_pos h5]))
          subst h5
          clear hstep hsame
          go_wp2_with (go_at_call 32; (with_reducible refine (HGT.out _ (by exact blw)).mono ?_); rintro e w6 ⟨rfl, hb6⟩; have h6c := bc hb6; have h6f := bf hb6; have h6z := hb6.size; simp only [World.size_alloc] at h6z)
          have hb6' : Below wr.heap.size wr w6 := (by exact blw)
          refine ⟨⟨j + 1, hlt, by go_num, by rw [HS.out]; exact owns_below HO.out hb6' (Nat.le_refl _), HBR.out.trans (hb6'.mono hzr)⟩, ?_⟩
          simp only [RowKit.intOf]; omega
        · rw [if_neg h5, if_pos rfl] at hstep
          have HS := Lib.hid hstep
          have d5 : (p1 == 65535) = false := by simpa using h5
          have d6 : (p1 != 65535) = true := by simpa using h5
          have d7 : decide (nl ≤ j) = false := by simp; omega
          clear hstep hsame h5
          go_wp2_with (go_at_call 32
                       (with_reducible refine (HGT.out _ (by exact blw)).mono ?_)
                       rintro e w6 ⟨rfl, hb6⟩
                       have h6c := bc hb6
                       have h6f := bf hb6
                       have h6z := hb6.size
                       simp only [World.size_alloc] at h6z
                       have hb6' : Below wr.heap.size wr w6 := (by exact blw)
                       have HB6 := Lib.hid hb6'
                       obtain ⟨g6, p6, he6, _, hg6z, hp6, _, _, _, _, hset6, _⟩ := grow_at (owns_below HO.out hb6' (Nat.le_refl _)) (by rw [swapP_length]; exact HLL.out) hlt
                       cases he6
                       obtain rfl : p6 = (p1, p2) := by rw [HPP.out] at hp6; injection hp6 with hp6; exact hp6.symm
                       have hs6 := hset6 (q1 : Nat)
                       rw [HS.out] at hs6
                       have HS6 := Lib.hid hs6
                       clear hs6 hset6 hp6 hb6')
          refine ⟨⟨j + 1, hlt, by go_num, HS6.out, (HBR.out.trans (HB6.out.mono hzr)).setCell (p := ⟨g5, j * 2, none⟩) hg5 _⟩, ?_⟩
          simp only [RowKit.intOf]; omega
    · obtain rfl : nl = j := by omega
      have HOE := Lib.hid (show wr.ownsRow V.heap.size 57 2 (.slice a5 nl c5) nl (gv (swapL (lkR bs rs) l)) from by have := HO.out; rwa [swapP_all _ _ _ (by rw [HLL.out]; exact Nat.le_refl _)] at this)
      have HWR := Lib.hid hwr
      have hsl : (swapL (lkR bs rs) l).length = nl := by rw [swapL_length, HLL.out]
      have HSL := Lib.hid hsl
      have HGLY := Lib.hid (fun W gx6 a6 c6 (hG : GIs w.heap.size gx6 a6 c6 (swapL (lkR bs rs) l) W) => hsl ▸ gglyphs_any w.heap.size gx6 a6 c6 _ W hG (by omega))
      clear hsl
      have HOF := Lib.hid (gof_any al nl cl l wr (HHL.out.below hwr) HLL.out (by omega))
      have hwz := hwr.size
      have hTR := HTV.out.below HBR.out
      have HTR := Lib.hid hTR
      clear HO hTR hwr x9
      go_wp2_with (first
        | (go_at_call 33
           (with_reducible refine HOF.out.mono ?_)
           rintro e w6 ⟨gx6, a6, c6, rfl, hG6, hg6, hb6⟩
           have HK6 := Lib.hid (fun k hk => (hG6.rowIn k hk).1)
           have HG6 := Lib.hid (hG6.mono hwz)
           have HH6 := Lib.hid ((has_of_owns HOE.out).below hb6)
           have HB6 := Lib.hid (HWR.out.trans (hb6.mono hwz))
           have HR6 := Lib.hid (swrun_any _ gx bs rs w.heap.size gx6 a6 c6 l w6 (HTR.out.below hb6) (HOK.out.fit hg2 (.inl rfl)) (hG6.mono hwz) HB6.out.size HID.out (by rw [HLL.out]; omega))
           clear hG6 hb6)
        | (go_at_call 34
           (with_reducible refine HR6.out.mono ?_)
           rintro e w7 ⟨rfl, hG7, hk7⟩
           have HG7 := Lib.hid hG7
           have HH7 := Lib.hid ((has_of_owns HOE.out).keptLt HH6.out hk7.kepO (fun k t hk ho => by have := HK6.out k ho.2; omega))
           have HB7 := Lib.hid (HB6.out.trans hk7.below)
           clear hG7 hk7)
        | (go_at_call 21; (with_reducible refine (HGLY.out w7 gx6 a6 c6 HG7.out).mono ?_); rintro e w8 ⟨a8, c8, rfl, ho, _, _, _, hb8⟩; have HH8 := Lib.hid (has_of_owns ho); have HH8' := Lib.hid (HH7.out.below hb8); have HB8 := Lib.hid (HB7.out.trans (hb8.mono HB7.out.size)); clear ho hb8)
        | (go_at_call 22; go_loud (refine (refSameG_any _ _ nl _ nl _ _ _ w8 HH8.out HSL.out HH8'.out HSL.out (by omega) (by omega)).mono ?_); rintro e w9 ⟨rfl, hb9⟩; rw [decide_eq_true rfl]; have HB9 := Lib.hid (HB8.out.trans (hb9.mono HB8.out.size)); clear hb9))
      go_ret
      exact ⟨rfl, HB9.out⟩

open Go.ChangeShapes Go.WideShapes Go.ChangeAt Go.RowKit
open Go.ChangeMaps (open_string shut_string)

set_option maxRecDepth 100000 in
theorem swapRuns_walks (H : Type) (enc : TypeId × Value → H) : Walks H enc 7 [22, 3, 51] := by
  intro W base args ds p hval hA _
  obtain ⟨v0, vs0, d0, ds0, p0, q0, hargs, rfl, rfl, h0, r0⟩ := trodAll_cons hA
  obtain ⟨v1, vs1, d1, ds1, p1, q1, rfl, rfl, rfl, h1, r1⟩ := trodAll_cons r0
  obtain ⟨v2, vs2, d2, ds2, p2, q2, rfl, rfl, rfl, h2, r2⟩ := trodAll_cons r1
  obtain ⟨rfl, rfl, rfl⟩ := trodAll_nil r2
  obtain rfl : args = #[v0, v1, v2] := by cases args; simp_all
  obtain ⟨a0, n0, c0, x0, rfl, e0, f0, g0, j0, k0⟩ := open_bytes Try.underlying22 Try.underlying5 (by kernel_rfl) (hval 0 22 v0 rfl rfl) h0
  obtain ⟨z1, rfl, t1⟩ := open_int Try.underlying3 (hval 1 3 v1 rfl rfl) h1
  obtain ⟨a2, n2, c2, l2, rfl, hl, _, _, hn, hh, hw⟩ := open_glyphsW (hval 2 51 v2 rfl rfl) h2
  exact swapRuns_walk a0 n0 c0 x0 z1 a2 n2 c2 l2 W e0 f0 g0 j0 (wf_i64 t1) hh hl hn (fun p hp => (hw p hp).1)

set_option maxRecDepth 100000 in
theorem swapRuns_lifted (os : Os) (started : os.Started) (H : Type) (enc : TypeId × Value → H) :
    ReturnsInHanded {} Try.checked os 7 .any (Rows.swapRunsSpec.pre6 enc Try.prog Try.f7 Rows.swapRunsRow.domain false) (Rows.swapRunsSpec.post enc Try.prog Try.f7 false true false false) :=
  lift_law (s := Rows.swapRunsSpec) (fn := Try.f7) started (by kernel_rfl) Try.func7
    (ChangeSpec.witness6 (enc := enc) (C := Try.checked) false ⟨#[], #[.slice none 0 0, .int .i64 0, .slice none 0 0], []⟩ 8 (by kernel_rfl) (by kernel_rfl) (by kernel_rfl) (by kernel_rfl))
    rfl rfl (fun ds h => by match ds, h with | [d0, d1, d2], _ => rfl) (by intro t ht; simp [Try.params7] at ht; first | (subst ht; exact ⟨by kernel_rfl, of_decide_eq_true (by kernel_rfl)⟩) | (obtain rfl | rfl := ht <;> exact ⟨by kernel_rfl, of_decide_eq_true (by kernel_rfl)⟩) | (obtain rfl | rfl | rfl := ht <;> exact ⟨by kernel_rfl, of_decide_eq_true (by kernel_rfl)⟩) | (obtain rfl | rfl | rfl | rfl := ht <;> exact ⟨by kernel_rfl, of_decide_eq_true (by kernel_rfl)⟩))
    (by rw [Try.params7]; exact swapRuns_walks H enc)
theorem swapRuns_over : Rows.swapRunsRow.holds Try.pinned (OpenSpec.ofChange Rows.swapRunsSpec) :=
  OpenClaim.holds_of_wide 7 Try.f7 rfl rfl rfl rfl rfl rfl rfl ⟨rfl, rfl, rfl, rfl, rfl⟩ rfl rfl rfl rfl rfl (by kernel_rfl) Try.func7 (by kernel_rfl)
    (of_decide_eq_true (by kernel_rfl)) (by unfold Func.isWrapper; first | (rw [if_pos (by decide +kernel)]; kernel_rfl) | (rw [if_neg (by decide +kernel)]; exact ⟨rfl, rfl⟩))
    (fun os started H enc _ => swapRuns_lifted os started H enc)
theorem swapRuns_proved : Rows.SwapRunsSaid := swapRuns_over
#print axioms swapRuns_proved
end Go.Proofs.Ytcegoenlajkgfaa
