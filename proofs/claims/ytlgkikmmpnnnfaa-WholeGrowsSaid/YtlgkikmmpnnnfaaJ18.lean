/- Joined from: DRunG. -/
import Derived.Test.YtlgkikmmpnnnfaaJ01
import Derived.Test.YtlgkikmmpnnnfaaJ17
section

/- drive.Run, with any act that is a function of the program's: a machine goes along a line, whatever the act does by its own contract; what is known at each step may hang on the place. Conditions: a machine and a line in memory; the act keeps the machine, and what else is known; places are below 900000001. -/
namespace Go.Proofs.Ytlgkikmmpnnnfaa
open Go.RowKit Go.Lib

set_option maxRecDepth 100000 in
set_option maxHeartbeats 3200000 in
theorem drunG_any {X : Type} (line : X → List (Int × Int)) (Inv : X → Nat → World → Prop) (act : X → Nat → Ent → X × Int × Int) (own : Nat → Nat → Prop) (Bm g : Nat) (bs : List UInt8) (k glyphs : Nat) (rs : List RP) (S B Bl gl fn : Nat) (v : Value) (x0 : X) (w : World)
    (henter : ∀ (args : Array Value) (w : World), (callFunc fn args).run Try.prog w = .ok (.enter fn args) w)
    (hM : MIs Bm g bs k rs S w) (hS : S ≤ 65536) (hok : MOk bs glyphs k rs S) (hg1 : 1 ≤ glyphs) (hfit : FitL (tabR (bs.drop (num bs 4 4)) rs).1 (tabR (bs.drop (num bs 4 4)) rs).2) (hown : notM own) (hB : B ≤ w.heap.size)
    (hI : Inv x0 0 w) (hIB : ∀ x z W W', Inv x z W → Below W.heap.size W W' → Inv x z W') (hIZ : ∀ x z W, Inv x z W → z ≤ 900000000) (hIL : ∀ x z W, Inv x z W → ∃ a c, GIs Bl gl a c (line x) W) (hIds : ∀ x z W, Inv x z W → ∀ p ∈ line x, -9223372036854775808 ≤ p.1 ∧ p.1 ≤ 9223372036854775807)
    (n : Nat) (hn : n = (line x0).length) (hn6 : n ≤ 1000000)
    (hact : ∀ x W z e, Inv x z W → KeepC B own w W → (∃ s c, s < S ∧ c < num bs 0 4 ∧ e = enM bs k s c) → e.1 ≤ 65535 → e.2.1 ≤ 65535 → e.2.2.1 ≤ 65535 → e.2.2.2 ≤ 65535 → Calls Try.prog fn #[v, .int .i64 (z : Nat), entV4 e] W fun r W' => r = .returned (.tuple #[.int .i64 (act x z e).2.1, .int .i64 (act x z e).2.2]) ∧ (Inv (act x z e).1 (max (act x z e).2.1 0).toNat W' ∧ (z < (line x).length → Inv (act x z e).1 (max (act x z e).2.2 0).toNat W')) ∧ KeepC B own W W') :
    Calls Try.prog 47 #[.pointer (some ⟨g, 0, none⟩), .pointer (some ⟨gl, 0, none⟩), .func (.func fn) #[v] #[]] w fun e w' =>
      e = .returned (.tuple #[.int .i64 ((runD (fun x z => clD bs rs (line x) z) (enM bs k) (fun x z => decide ((line x).length ≤ z)) act (2 * n + 128) x0 0 0 0 1).2.1 : Nat), .int .i64 ((runD (fun x z => clD bs rs (line x) z) (enM bs k) (fun x z => decide ((line x).length ≤ z)) act (2 * n + 128) x0 0 0 0 1).2.2 : Nat)]) ∧ (∃ z', Inv (runD (fun x z => clD bs rs (line x) z) (enM bs k) (fun x z => decide ((line x).length ≤ z)) act (2 * n + 128) x0 0 0 0 1).1 z' w') ∧ KeepC B own w w' := by
  have hAC := allocC
  have hAF := allocF
  have hN := fn_nilA
  obtain ⟨R, hR⟩ : ∃ R, R = runD (fun x z => clD bs rs (line x) z) (enM bs k) (fun x z => decide ((line x).length ≤ z)) act (2 * n + 128) x0 0 0 0 1 := ⟨_, rfl⟩
  rw [← hR]
  obtain ⟨a0, c0, hG0⟩ := hIL x0 0 w hI
  have hln := glen_any Bl gl a0 c0 (line x0) w hG0
  rw [← hn] at hln
  have HLN := Lib.hid hln
  have HM := Lib.hid hM
  have HCA := Lib.hid (fun W x z (hk : KeepC B own w W) (hx : Inv x z W) (hz : z ≤ 1000000000) => by
    obtain ⟨a, c, hG⟩ := hIL x z W hx
    exact classAt_z Bm g bs k rs S Bl gl a c (line x) z hz W (hM.keepO hk hown) hfit hG (hIds x z W hx))
  have HST := Lib.hid (fun W (hk : KeepC B own w W) s c (hs : s < S) (hc : c < num bs 0 4) => step_yes Bm g bs k rs S s c W (hM.keepO hk hown) hS hs hc)
  have HACT := Lib.hid hact
  have HCL := Lib.hid (fun x z => clD_lt bs rs (line x) z hok.cls.1)
  have HNX := Lib.hid (fun s c (hs : s < S) (hc : c < num bs 0 4) => enM_next bs k hok hs hc)
  have HIB := Lib.hid hIB
  have HI := Lib.hid hI
  have HR := Lib.hid hR
  have HIZ := Lib.hid hIZ
  have HOWN := Lib.hid hown
  have hS2 : 0 < S := by have := hok.least.closed.1; omega
  clear hM hok hfit hown hI hIB hIL hIds hn hact hG0 hln hR hIZ
  go_enter Try.func47, Try.ntmps47
  go_wp2_with (go_at_call 38; (with_reducible refine HLN.out.mono ?_); rintro e w_ ⟨rfl, rfl⟩)
  go_loopw [9, 10, 11, 12] (fun now at' rests steps wr => ∃ (fu : Nat) (x : X) (s z re st : Nat), now = .int .i64 (s : Nat) ∧ at' = .int .i64 (z : Nat) ∧ rests = .int .i64 (re : Nat) ∧ steps = .int .i64 (st : Nat) ∧ s < S ∧ re ≤ 64 ∧ st + fu = 2 * n + 129 ∧ Inv x z wr ∧ KeepC B own w wr ∧ runD (fun x z => clD bs rs (line x) z) (enM bs k) (fun x z => decide ((line x).length ≤ z)) act fu x s z re st = R) (fun _ _ _ steps _ => 2 * n + 129 - (Go.RowKit.intOf steps).toNat)
  case atStart => exact ⟨2 * n + 128, x0, 0, 0, 0, 1, rfl, rfl, rfl, rfl, hS2, Nat.zero_le _, by omega, HI.out, KeepC.refl _ _ _, HR.out.symm⟩
  case round =>
    obtain ⟨fu, x, s, z, re, st, rfl, rfl, rfl, rfl, hs, hre, hst, hx, hk, hrun⟩ := hrel
    rename World => wr
    have HX := Lib.hid hx
    have HK := Lib.hid hk
    have HRUN := Lib.hid hrun
    clear hx hk hrun
    by_cases hfu : fu = 0
    · have hst2 : st = 2 * n + 129 := by omega
      have d1 : decide ((st : Int) ≤ 2 * (n : Int) + 128) = false := by simp; omega
      have hrun := HRUN.out
      rw [hfu, runD] at hrun
      have HRUN := Lib.hid hrun
      clear hfu hrun
      go_wp2_with fail
      go_ret2
      rw [← HRUN.out]
      refine ⟨?_, ⟨_, HX.out⟩, HK.out⟩
      show Ending.returned (.tuple #[.int .i64 (2 * (n : Int) + 128), .int .i64 4]) = Ending.returned (.tuple #[.int .i64 ((st - 1 : Nat) : Int), .int .i64 ((4 : Nat) : Int)])
      rw [show ((st - 1 : Nat) : Int) = 2 * (n : Int) + 128 by omega]
      rfl
    · obtain ⟨f, rfl⟩ : ∃ f, fu = f + 1 := ⟨fu - 1, by omega⟩
      have d1 : decide ((st : Int) ≤ 2 * (n : Int) + 128) = true := by simp; omega
      have hzb : z ≤ 900000000 := HIZ.out _ _ _ HX.out
      have hrun := HRUN.out
      have hC := HCL.out x z
      have hca := HCA.out wr x z HK.out HX.out (by omega)
      have hnx := HNX.out s (clD bs rs (line x) z) hs hC
      have hstp := fun W (hW : KeepC B own w W) => show Calls Try.prog 80 #[.pointer (some ⟨g, 0, none⟩), .int .i64 (s : Nat), .int .i64 (clD bs rs (line x) z : Nat)] W fun e w' => e = .returned (.tuple #[entV4 (enM bs k s (clD bs rs (line x) z)), .bool true]) ∧ Below W.heap.size W w' from HST.out W hW s (clD bs rs (line x) z) hs hC
      have hle : (enM bs k s (clD bs rs (line x) z)).1 ≤ 65535 ∧ (enM bs k s (clD bs rs (line x) z)).2.1 ≤ 65535 ∧ (enM bs k s (clD bs rs (line x) z)).2.2.1 ≤ 65535 ∧ (enM bs k s (clD bs rs (line x) z)).2.2.2 ≤ 65535 := entX_le _ _ _
      rw [runD] at hrun
      (try simp only at hrun)
      generalize he : enM bs k s (clD bs rs (line x) z) = E at *
      generalize clD bs rs (line x) z = C at *
      obtain ⟨e0, e1, e2, e3⟩ := E
      (try simp only at hle hnx hrun)
      have hac := fun W (hi : Inv x z W) (hk : KeepC B own w W) => HACT.out x W z (e0, e1, e2, e3) hi hk ⟨s, C, hs, hC, he.symm⟩ hle.1 hle.2.1 hle.2.2.1 hle.2.2.2
      generalize act x z (e0, e1, e2, e3) = r at hrun hac
      obtain ⟨x1, y1, y2⟩ := r
      (try simp only at hrun hac)
      simp only [entV4] at hac hstp
      obtain ⟨wi, hwi⟩ : ∃ wi, decide (z < (line x).length) = wi := ⟨_, rfl⟩
      rw [hwi] at hca
      have HWI := Lib.hid hwi
      have HC1 := Lib.hid hca
      have HS1 := Lib.hid hstp
      obtain ⟨p1, hp1⟩ : ∃ p : Nat, max y1 0 = p := ⟨(max y1 0).toNat, by omega⟩
      obtain ⟨p2, hp2⟩ : ∃ p : Nat, max y2 0 = p := ⟨(max y2 0).toNat, by omega⟩
      rw [hp1, hp2, Int.toNat_natCast, Int.toNat_natCast] at hrun
      simp only [hp1, hp2, Int.toNat_natCast] at hac
      have HA1 := Lib.hid hac
      have HRN := Lib.hid hrun
      have hle1 := hle.2.1
      have hBr := Nat.le_trans hB HK.out.size
      clear hwi he hca hstp hac hrun hle hC HRUN
      by_cases hA : e1 / 2 ^ 14 % 2 = 1
      · have hbt : bits .and .i64 (e1 : Int) 16384 = 16384 := flag_yes e1 14 hle1 (by decide) 16384 rfl hA
        have hrn := HRN.out
        rw [if_pos hA] at hrn
        by_cases h64 : 64 < re + 1
        · have d2 : decide ((64 : Int) < (re : Int) + 1) = true := by simp; omega
          rw [if_pos h64] at hrn
          have HRN := Lib.hid hrn
          clear hrn hA
          go_wp2_with (first
            | (go_at_call 79; (with_reducible refine HC1.out.mono ?_); rintro e w1 ⟨rfl, hb1⟩; have HK1 := Lib.hid (HK.out.trans (KeepC.of (own := own) hb1 hBr)); have HX1 := Lib.hid (HIB.out _ _ _ _ HX.out hb1); clear hb1)
            | (go_at_call 80; (with_reducible refine (HS1.out _ HK1.out).mono ?_); rintro e w2 ⟨rfl, hb2⟩; have hBw := Nat.le_trans hB HK1.out.size; have hb2' : Below w1.heap.size w1 (w2.alloc (Obj.cells #[.int .i64 (e0 : Nat), .int .i64 (e1 : Nat), .int .i64 (e2 : Nat), .int .i64 (e3 : Nat)] 64)) := balloc hb2 _; have HK2 := Lib.hid (HK1.out.trans (KeepC.of (own := own) hb2' hBw)); have HX2 := Lib.hid (HIB.out _ _ _ _ HX1.out hb2'); clear hb2 hb2' hBw)
            | ((with_reducible refine (HA1.out _ HX2.out HK2.out).mono ?_); rintro e w3 ⟨rfl, hx3, hk3⟩; have h14 := (hk3.kept w2.heap.size _ _ _ (heap_push _ _ _ |>.trans (if_pos rfl)) (HOWN.out.2.2.1 _)).trans (heap_push _ _ _ |>.trans (if_pos rfl)); have q0 := cell_of_heap h14 0; have q1 := cell_of_heap h14 1; simp only [List.getElem?_toArray, List.getElem?_cons_succ, List.getElem?_cons_zero] at q0 q1; have HX3 := Lib.hid hx3; have HK3 := Lib.hid (HK2.out.trans hk3); clear hx3 hk3 h14))
          go_ret2
          rw [← HRN.out]
          exact ⟨rfl, ⟨_, HX3.out.1⟩, HK3.out⟩
        · have d2 : decide ((64 : Int) < (re : Int) + 1) = false := by simp; omega
          rw [if_neg h64] at hrn
          have HRN := Lib.hid hrn
          clear hrn hA
          go_wp2_with (first
            | (go_at_call 79; (with_reducible refine HC1.out.mono ?_); rintro e w1 ⟨rfl, hb1⟩; have HK1 := Lib.hid (HK.out.trans (KeepC.of (own := own) hb1 hBr)); have HX1 := Lib.hid (HIB.out _ _ _ _ HX.out hb1); clear hb1)
            | (go_at_call 80; (with_reducible refine (HS1.out _ HK1.out).mono ?_); rintro e w2 ⟨rfl, hb2⟩; have hBw := Nat.le_trans hB HK1.out.size; have hb2' : Below w1.heap.size w1 (w2.alloc (Obj.cells #[.int .i64 (e0 : Nat), .int .i64 (e1 : Nat), .int .i64 (e2 : Nat), .int .i64 (e3 : Nat)] 64)) := balloc hb2 _; have HK2 := Lib.hid (HK1.out.trans (KeepC.of (own := own) hb2' hBw)); have HX2 := Lib.hid (HIB.out _ _ _ _ HX1.out hb2'); clear hb2 hb2' hBw)
            | ((with_reducible refine (HA1.out _ HX2.out HK2.out).mono ?_); rintro e w3 ⟨rfl, hx3, hk3⟩; have h14 := (hk3.kept w2.heap.size _ _ _ (heap_push _ _ _ |>.trans (if_pos rfl)) (HOWN.out.2.2.1 _)).trans (heap_push _ _ _ |>.trans (if_pos rfl)); have q0 := cell_of_heap h14 0; have q1 := cell_of_heap h14 1; simp only [List.getElem?_toArray, List.getElem?_cons_succ, List.getElem?_cons_zero] at q0 q1; have HX3 := Lib.hid hx3; have HK3 := Lib.hid (HK2.out.trans hk3); clear hx3 hk3 h14))
          go_roundw
          case rel => exact ⟨f, x1, e0, p1, re + 1, st + 1, rfl, by first | (congr 1; split <;> omega) | congr 1, by go_num, by go_num, hnx, by omega, by omega, HX3.out.1, HK3.out, HRN.out⟩
          case measure => simp only [RowKit.intOf]; omega
      · have hbt : bits .and .i64 (e1 : Int) 16384 = 0 := flag_no e1 14 hle1 (by decide) 16384 rfl hA
        have hrn := HRN.out
        rw [if_neg hA] at hrn
        by_cases hC0 : (line x).length ≤ z
        · obtain rfl : wi = false := by rw [← HWI.out]; simp; omega
          rw [if_pos (by simp; omega)] at hrn
          have HRN := Lib.hid hrn
          clear hrn hA hC0
          go_wp2_with (first
            | (go_at_call 79; (with_reducible refine HC1.out.mono ?_); rintro e w1 ⟨rfl, hb1⟩; have HK1 := Lib.hid (HK.out.trans (KeepC.of (own := own) hb1 hBr)); have HX1 := Lib.hid (HIB.out _ _ _ _ HX.out hb1); clear hb1)
            | (go_at_call 80; (with_reducible refine (HS1.out _ HK1.out).mono ?_); rintro e w2 ⟨rfl, hb2⟩; have hBw := Nat.le_trans hB HK1.out.size; have hb2' : Below w1.heap.size w1 (w2.alloc (Obj.cells #[.int .i64 (e0 : Nat), .int .i64 (e1 : Nat), .int .i64 (e2 : Nat), .int .i64 (e3 : Nat)] 64)) := balloc hb2 _; have HK2 := Lib.hid (HK1.out.trans (KeepC.of (own := own) hb2' hBw)); have HX2 := Lib.hid (HIB.out _ _ _ _ HX1.out hb2'); clear hb2 hb2' hBw)
            | ((with_reducible refine (HA1.out _ HX2.out HK2.out).mono ?_); rintro e w3 ⟨rfl, hx3, hk3⟩; have h14 := (hk3.kept w2.heap.size _ _ _ (heap_push _ _ _ |>.trans (if_pos rfl)) (HOWN.out.2.2.1 _)).trans (heap_push _ _ _ |>.trans (if_pos rfl)); have q0 := cell_of_heap h14 0; have q1 := cell_of_heap h14 1; simp only [List.getElem?_toArray, List.getElem?_cons_succ, List.getElem?_cons_zero] at q0 q1; have HX3 := Lib.hid hx3; have HK3 := Lib.hid (HK2.out.trans hk3); clear hx3 hk3 h14))
          go_ret2
          rw [← HRN.out]
          exact ⟨rfl, ⟨_, HX3.out.1⟩, HK3.out⟩
        · obtain rfl : wi = true := by rw [← HWI.out]; simp; omega
          rw [if_neg (by simp; omega)] at hrn
          have HRN := Lib.hid hrn
          clear hrn hA
          go_wp2_with (first
            | (go_at_call 79; (with_reducible refine HC1.out.mono ?_); rintro e w1 ⟨rfl, hb1⟩; have HK1 := Lib.hid (HK.out.trans (KeepC.of (own := own) hb1 hBr)); have HX1 := Lib.hid (HIB.out _ _ _ _ HX.out hb1); clear hb1)
            | (go_at_call 80; (with_reducible refine (HS1.out _ HK1.out).mono ?_); rintro e w2 ⟨rfl, hb2⟩; have hBw := Nat.le_trans hB HK1.out.size; have hb2' : Below w1.heap.size w1 (w2.alloc (Obj.cells #[.int .i64 (e0 : Nat), .int .i64 (e1 : Nat), .int .i64 (e2 : Nat), .int .i64 (e3 : Nat)] 64)) := balloc hb2 _; have HK2 := Lib.hid (HK1.out.trans (KeepC.of (own := own) hb2' hBw)); have HX2 := Lib.hid (HIB.out _ _ _ _ HX1.out hb2'); clear hb2 hb2' hBw)
            | ((with_reducible refine (HA1.out _ HX2.out HK2.out).mono ?_); rintro e w3 ⟨rfl, hx3, hk3⟩; have h14 := (hk3.kept w2.heap.size _ _ _ (heap_push _ _ _ |>.trans (if_pos rfl)) (HOWN.out.2.2.1 _)).trans (heap_push _ _ _ |>.trans (if_pos rfl)); have q0 := cell_of_heap h14 0; have q1 := cell_of_heap h14 1; simp only [List.getElem?_toArray, List.getElem?_cons_succ, List.getElem?_cons_zero] at q0 q1; have HX3 := Lib.hid hx3; have HK3 := Lib.hid (HK2.out.trans hk3); clear hx3 hk3 h14))
          go_roundw
          case rel => exact ⟨f, x1, e0, p2, 0, st + 1, rfl, by first | (congr 1; split <;> omega) | congr 1, rfl, by go_num, hnx, by omega, by omega, HX3.out.2 (by omega), HK3.out, HRN.out⟩
          case measure => simp only [RowKit.intOf]; omega
end Go.Proofs.Ytlgkikmmpnnnfaa
end
