/- Joined from: DSpec DRun RRun RKeep SRead SPlace SSpeak Frame U16s SPlaceLaw Ref1 Cut Ref2. -/
import Derived.Test.YthjnpfhcjacibaaDoorJ10
import Derived.Test.YthjnpfhcjacibaaDoorJ03
import Derived.Test.YthjnpfhcjacibaaDoorJ07
import Derived.Test.YthjnpfhcjacibaaDoorJ05
import Derived.Test.YthjnpfhcjacibaaDoorJ04
import Derived.Test.YthjnpfhcjacibaaDoorJ02
import Derived.Test.YthjnpfhcjacibaaDoorJ01
import Derived.ProofKit
import Derived.OpenShut
import Derived.ShutString
import Derived.ChangeOld
import Derived.SizedLaws
import Derived.Lib.SmallJoins
import Derived.Deep.Slices
section

/- A machine on its way along a line, as a function; drive's classAt at any place. Conditions: a machine and a line in memory; sizes. -/
namespace Go.Proofs.YthjnpfhcjacibaaDoor
open Go.RowKit Go.Lib

/-- An entry: its next state, flags, and two words. -/
abbrev Ent := Nat × Nat × Nat × Nat
def entX (vb : List UInt8) (k j : Nat) : Ent := (num vb (j * (4 + 2 * k)) 2, num vb (j * (4 + 2 * k) + 2) 2, if 0 < k then num vb (j * (4 + 2 * k) + 4) 2 else 0, if 1 < k then num vb (j * (4 + 2 * k) + 6) 2 else 0)
def entV4 (e : Ent) : Value := .agg #[.int .i64 (e.1 : Nat), .int .i64 (e.2.1 : Nat), .int .i64 (e.2.2.1 : Nat), .int .i64 (e.2.2.2 : Nat)]
theorem entA_X (vb : List UInt8) (k j : Nat) : entA vb k j = entV4 (entX vb k j) := rfl
theorem entX_le (vb : List UInt8) (k j : Nat) : (entX vb k j).1 ≤ 65535 ∧ (entX vb k j).2.1 ≤ 65535 ∧ (entX vb k j).2.2.1 ≤ 65535 ∧ (entX vb k j).2.2.2 ≤ 65535 := by
  unfold entX
  refine ⟨num2_lt _ _, num2_lt _ _, ?_, ?_⟩
  · dsimp only; split
    · exact num2_lt _ _
    · omega
  · dsimp only; split
    · exact num2_lt _ _
    · omega
/-- The entry of a state and a class. -/
def enM (bs : List UInt8) (k s c : Nat) : Ent := entX (bs.drop (num bs 12 4)) k (entN bs (s * num bs 0 4 + c))
/-- The class of a line's place, or of its end. -/
def clD (bs : List UInt8) (rs : List RP) (l : List (Int × Int)) (z : Nat) : Nat := match l[z]? with
  | some p => classM bs rs p.1
  | none => 0
theorem classM_less (bs : List UInt8) (rs : List RP) (id : Int) (h : 4 ≤ num bs 0 4) : classM bs rs id < num bs 0 4 := by
  unfold classM
  split
  · omega
  · simp only
    split
    · rename_i h2; exact h2.2
    · omega
theorem clD_lt (bs : List UInt8) (rs : List RP) (l : List (Int × Int)) (z : Nat) (h : 4 ≤ num bs 0 4) : clD bs rs l z < num bs 0 4 := by
  unfold clD
  split
  · exact classM_less _ _ _ h
  · omega
theorem enM_next (bs : List UInt8) (k : Nat) {glyphs : Nat} {rs : List RP} {S s c : Nat} (hok : MOk bs glyphs k rs S) (hs : s < S) (hc : c < num bs 0 4) : (enM bs k s c).1 < S := by
  have h1 : entN bs (s * num bs 0 4 + c) < needE bs S := ent_in hs hc
  have h2 : nextN bs k (entN bs (s * num bs 0 4 + c)) < needS bs k (needE bs S) := needL_lt h1
  have h3 := hok.least.closed.2
  have h4 : (enM bs k s c).1 = nextN bs k (entN bs (s * num bs 0 4 + c)) := by
    unfold enM entX nextN
    rw [num_dropS]
  omega
/-- A machine goes along a line: what becomes of it, how many steps, and the error. -/
def runD {X : Type} (cl : X → Nat → Nat) (en : Nat → Nat → Ent) (fin : X → Nat → Bool) (act : X → Nat → Ent → X × Int × Int) : Nat → X → Nat → Nat → Nat → Nat → X × Nat × Nat
  | 0, x, _, _, _, st => (x, st - 1, 4)
  | fu + 1, x, now, z, re, st =>
    let e := en now (cl x z)
    let r := act x z e
    if e.2.1 / 2 ^ 14 % 2 = 1 then (if 64 < re + 1 then (r.1, st, 4) else runD cl en fin act fu r.1 e.1 (max r.2.1 0).toNat (re + 1) (st + 1))
    else if fin x z then (r.1, st, 0) else runD cl en fin act fu r.1 e.1 (max r.2.2 0).toNat 0 (st + 1)
/-- What holds of a line at first, and stays at each step, holds of what becomes of it. -/
theorem runD_keeps {X : Type} (P : X → Prop) {cl : X → Nat → Nat} {en : Nat → Nat → Ent} {fin : X → Nat → Bool} {act : X → Nat → Ent → X × Int × Int} (hs : ∀ x z e, P x → P (act x z e).1) : ∀ fu x now z re st, P x → P (runD cl en fin act fu x now z re st).1 := by
  intro fu
  induction fu with
  | zero => intro x now z re st h; exact h
  | succ fu ih =>
    intro x now z re st h
    unfold runD
    dsimp only
    split
    · split
      · exact hs _ _ _ h
      · exact ih _ _ _ _ _ (hs _ _ _ h)
    · split
      · exact hs _ _ _ h
      · exact ih _ _ _ _ _ (hs _ _ _ h)
set_option maxRecDepth 100000 in
set_option maxHeartbeats 1600000 in
theorem classAt_z (B g : Nat) (bs : List UInt8) (k : Nat) (rs : List RP) (S : Nat) (Bl gl : Nat) (a : Option Addr) (c : Nat) (l : List (Int × Int)) (z : Nat) (hz : z ≤ 1000000000) (w : World) (h : MIs B g bs k rs S w) (hf : FitL (tabR (bs.drop (num bs 4 4)) rs).1 (tabR (bs.drop (num bs 4 4)) rs).2) (hG : GIs Bl gl a c l w) (hid : ∀ p ∈ l, -9223372036854775808 ≤ p.1 ∧ p.1 ≤ 9223372036854775807) :
    Calls Tryd.prog 39 #[.pointer (some ⟨g, 0, none⟩), .pointer (some ⟨gl, 0, none⟩), .int .i64 (z : Nat)] w fun e w' => e = .returned (.int .i64 (clD bs rs l z : Nat)) ∧ Below w.heap.size w w' := by
  have hAC := allocC
  have hAF := allocF
  have HAt := Lib.hid (gat_any Bl gl a c l w hG (z : Nat))
  have HM := Lib.hid h
  have HF := Lib.hid hf
  cases hl : l[z]? with
  | none =>
    have hin : inG l (z : Nat) = false := by
      have := List.getElem?_eq_none_iff.1 hl
      unfold inG
      simp
      omega
    rw [show clD bs rs l z = 0 by rw [clD, hl]]
    rw [hin, show atG l (z : Nat) = (0, 0) by rw [atG, if_neg (by rw [hin]; decide)]] at HAt
    simp only [glyphA] at HAt
    clear hl hin h hG hid hf
    go_enter Tryd.func39, Tryd.ntmps39
    go_wp2_with (go_at_call 51; (with_reducible refine HAt.out.mono ?_); rintro e w1 ⟨rfl, hb1⟩)
    go_ret
    exact ⟨rfl, blw⟩
  | some p =>
    have hin : inG l (z : Nat) = true := inG_of hl
    have hat : atG l (z : Nat) = p := atG_of hl
    have hp := hid p (List.mem_of_getElem? hl)
    rw [show clD bs rs l z = classM bs rs p.1 by rw [clD, hl]]
    rw [hin, hat] at HAt
    obtain ⟨p1, p2⟩ := p
    simp only [glyphA] at HAt hp
    have HC := Lib.hid (fun W (hW : Below w.heap.size w W) => class_any B g bs k rs S p1 W (HM.out.below hW) HF.out hp)
    clear hl hin hat h hG hid hf hp
    generalize classM bs rs p1 = C at *
    go_enter Tryd.func39, Tryd.ntmps39
    go_wp2_with (first | (go_at_call 51; (with_reducible refine HAt.out.mono ?_); rintro e w1 ⟨rfl, hb1⟩; have h1c := bc hb1; have h1f := bf hb1; have h1z := hb1.size) | (go_at_call 52; (with_reducible refine (HC.out _ (by exact blw)).mono ?_); rintro e w2 ⟨rfl, hb2⟩))
    go_ret
    exact ⟨rfl, blw⟩
end Go.Proofs.YthjnpfhcjacibaaDoor
end
section

/- drive.Run, with an act made by Plain: a machine goes along a line, whatever the act does by its own contract. Conditions: a machine and a line in memory; the act keeps the machine, and what else is known; sizes. -/
namespace Go.Proofs.YthjnpfhcjacibaaDoor
open Go.RowKit Go.Lib

theorem fn_nilA (fn : Fn) (first cap : Array Value) (w : World) : (binOp .eql 76 (.func fn first cap) .nilFunc).run Tryd.prog w = .ok (.bool false) w := by kernel_rfl
set_option maxRecDepth 100000 in
set_option maxHeartbeats 3200000 in
theorem drun_any {X : Type} (line : X → List (Int × Int)) (Inv : X → World → Prop) (act : X → Nat → Ent → X × Int × Int) (own : Nat → Nat → Prop) (K Bm g : Nat) (bs : List UInt8) (k glyphs : Nat) (rs : List RP) (S B Bl gl gx : Nat) (x0 : X) (w : World)
    (hM : MIs Bm g bs k rs S w) (hS : S ≤ 65536) (hok : MOk bs glyphs k rs S) (hg1 : 1 ≤ glyphs) (hfit : FitL (tabR (bs.drop (num bs 4 4)) rs).1 (tabR (bs.drop (num bs 4 4)) rs).2) (hown : notM own) (hB : B ≤ w.heap.size)
    (hI : Inv x0 w) (hIB : ∀ x W W', Inv x W → Below W.heap.size W W' → Inv x W') (hIL : ∀ x W, Inv x W → ∃ a c, GIs Bl gl a c (line x) W) (hIds : ∀ x W, Inv x W → ∀ p ∈ line x, -9223372036854775808 ≤ p.1 ∧ p.1 ≤ 9223372036854775807)
    (n : Nat) (hn : n = (line x0).length) (hn6 : n ≤ 1000000) (hK : K ≤ 100)
    (hbd : ∀ x z e, (act x z e).2.1 ≤ (z : Int) + K ∧ (act x z e).2.2 ≤ (z : Int) + K)
    (hact : ∀ x W z e, Inv x W → KeepC B own w W → z ≤ 900000000 → e.1 ≤ 65535 → e.2.1 ≤ 65535 → e.2.2.1 ≤ 65535 → e.2.2.2 ≤ 65535 → Calls Tryd.prog 41 #[.int .i64 (z : Nat), entV4 e, .pointer (some ⟨gx, 0, none⟩)] W fun r W' => r = .returned (.tuple #[.int .i64 (act x z e).2.1, .int .i64 (act x z e).2.2]) ∧ Inv (act x z e).1 W' ∧ KeepC B own W W') :
    Calls Tryd.prog 25 #[.pointer (some ⟨g, 0, none⟩), .pointer (some ⟨gl, 0, none⟩), .func (.func 41) #[] #[.pointer (some ⟨gx, 0, none⟩)]] w fun e w' =>
      e = .returned (.tuple #[.int .i64 ((runD (fun x z => clD bs rs (line x) z) (enM bs k) (fun x z => clD bs rs (line x) z == 0) act (2 * n + 128) x0 0 0 0 1).2.1 : Nat), .int .i64 ((runD (fun x z => clD bs rs (line x) z) (enM bs k) (fun x z => clD bs rs (line x) z == 0) act (2 * n + 128) x0 0 0 0 1).2.2 : Nat)]) ∧ Inv (runD (fun x z => clD bs rs (line x) z) (enM bs k) (fun x z => clD bs rs (line x) z == 0) act (2 * n + 128) x0 0 0 0 1).1 w' ∧ KeepC B own w w' := by
  have hAC := allocC
  have hAF := allocF
  have hN := fn_nilA
  obtain ⟨R, hR⟩ : ∃ R, R = runD (fun x z => clD bs rs (line x) z) (enM bs k) (fun x z => clD bs rs (line x) z == 0) act (2 * n + 128) x0 0 0 0 1 := ⟨_, rfl⟩
  rw [← hR]
  obtain ⟨a0, c0, hG0⟩ := hIL x0 w hI
  have hln := glen_any Bl gl a0 c0 (line x0) w hG0
  rw [← hn] at hln
  have HLN := Lib.hid hln
  have HM := Lib.hid hM
  have HCA := Lib.hid (fun W x z (hk : KeepC B own w W) (hx : Inv x W) (hz : z ≤ 1000000000) => by
    obtain ⟨a, c, hG⟩ := hIL x W hx
    exact classAt_z Bm g bs k rs S Bl gl a c (line x) z hz W (hM.keepO hk hown) hfit hG (hIds x W hx))
  have HST := Lib.hid (fun W (hk : KeepC B own w W) s c (hs : s < S) (hc : c < num bs 0 4) => step_yes Bm g bs k rs S s c W (hM.keepO hk hown) hS hs hc)
  have HACT := Lib.hid hact
  have HCL := Lib.hid (fun x z => clD_lt bs rs (line x) z hok.cls.1)
  have HNX := Lib.hid (fun s c (hs : s < S) (hc : c < num bs 0 4) => enM_next bs k hok hs hc)
  have HIB := Lib.hid hIB
  have HI := Lib.hid hI
  have HR := Lib.hid hR
  have HBD := Lib.hid hbd
  have HOWN := Lib.hid hown
  have hS2 : 0 < S := by have := hok.least.closed.1; omega
  have hK2 : K * (2 * n + 129) ≤ 100 * (2 * n + 129) := Nat.mul_le_mul_right _ hK
  clear hM hok hfit hown hI hIB hIL hIds hn hact hG0 hln hR hbd
  go_enter Tryd.func25, Tryd.ntmps25
  go_wp2_with (go_at_call 22; (with_reducible refine HLN.out.mono ?_); rintro e w_ ⟨rfl, rfl⟩)
  go_loopw [9, 10, 11, 12] (fun now at' rests steps wr => ∃ (fu : Nat) (x : X) (s z re st : Nat), now = .int .i64 (s : Nat) ∧ at' = .int .i64 (z : Nat) ∧ rests = .int .i64 (re : Nat) ∧ steps = .int .i64 (st : Nat) ∧ s < S ∧ z ≤ K * st ∧ re ≤ 64 ∧ st + fu = 2 * n + 129 ∧ Inv x wr ∧ KeepC B own w wr ∧ runD (fun x z => clD bs rs (line x) z) (enM bs k) (fun x z => clD bs rs (line x) z == 0) act fu x s z re st = R) (fun _ _ _ steps _ => 2 * n + 129 - (Go.RowKit.intOf steps).toNat)
  case atStart => exact ⟨2 * n + 128, x0, 0, 0, 0, 1, rfl, rfl, rfl, rfl, hS2, Nat.zero_le _, Nat.zero_le _, by omega, HI.out, KeepC.refl _ _ _, HR.out.symm⟩
  case round =>
    obtain ⟨fu, x, s, z, re, st, rfl, rfl, rfl, rfl, hs, hz, hre, hst, hx, hk, hrun⟩ := hrel
    rename World => wr
    have HX := Lib.hid hx
    have HK := Lib.hid hk
    have HRUN := Lib.hid hrun
    clear hx hk hrun
    by_cases hfu : fu = 0
    · have hst2 : st = 2 * n + 129 := by omega
      have d1 : decide ((st : Int) ≤ 2 * (n : Int) + 128) = false := by simp; omega
      have hrun := HRUN.out
      rw [hfu, runD] at hrun
      have HRUN := Lib.hid hrun
      clear hfu hrun
      go_wp2_with fail
      go_ret2
      rw [← HRUN.out]
      refine ⟨?_, HX.out, HK.out⟩
      show Ending.returned (.tuple #[.int .i64 (2 * (n : Int) + 128), .int .i64 4]) = Ending.returned (.tuple #[.int .i64 ((st - 1 : Nat) : Int), .int .i64 ((4 : Nat) : Int)])
      rw [show ((st - 1 : Nat) : Int) = 2 * (n : Int) + 128 by omega]
      rfl
    · obtain ⟨f, rfl⟩ : ∃ f, fu = f + 1 := ⟨fu - 1, by omega⟩
      have d1 : decide ((st : Int) ≤ 2 * (n : Int) + 128) = true := by simp; omega
      have hzb : z ≤ 900000000 := by
        have : K * st ≤ K * (2 * n + 129) := Nat.mul_le_mul_left _ (by omega)
        omega
      have hrun := HRUN.out
      have hBD := HBD.out x z (enM bs k s (clD bs rs (line x) z))
      have hC := HCL.out x z
      have hca := HCA.out wr x z HK.out HX.out (by omega)
      have hnx := HNX.out s (clD bs rs (line x) z) hs hC
      have hstp := fun W (hW : KeepC B own w W) => show Calls Tryd.prog 40 #[.pointer (some ⟨g, 0, none⟩), .int .i64 (s : Nat), .int .i64 (clD bs rs (line x) z : Nat)] W fun e w' => e = .returned (.tuple #[entV4 (enM bs k s (clD bs rs (line x) z)), .bool true]) ∧ Below W.heap.size W w' from HST.out W hW s (clD bs rs (line x) z) hs hC
      have hle : (enM bs k s (clD bs rs (line x) z)).1 ≤ 65535 ∧ (enM bs k s (clD bs rs (line x) z)).2.1 ≤ 65535 ∧ (enM bs k s (clD bs rs (line x) z)).2.2.1 ≤ 65535 ∧ (enM bs k s (clD bs rs (line x) z)).2.2.2 ≤ 65535 := entX_le _ _ _
      rw [runD] at hrun
      (try simp only at hrun)
      generalize he : enM bs k s (clD bs rs (line x) z) = E at *
      generalize clD bs rs (line x) z = C at *
      obtain ⟨e0, e1, e2, e3⟩ := E
      (try simp only at hle hnx hrun)
      have hac := fun W (hi : Inv x W) (hk : KeepC B own w W) => HACT.out x W z (e0, e1, e2, e3) hi hk hzb hle.1 hle.2.1 hle.2.2.1 hle.2.2.2
      generalize act x z (e0, e1, e2, e3) = r at hrun hac hBD
      obtain ⟨x1, y1, y2⟩ := r
      (try simp only at hrun hac hBD)
      simp only [entV4] at hac hstp
      have HC1 := Lib.hid hca
      have HS1 := Lib.hid hstp
      have HA1 := Lib.hid hac
      have hzs : z + K ≤ K * (st + 1) := by rw [Nat.mul_succ]; omega
      obtain ⟨p1, hp1⟩ : ∃ p : Nat, max y1 0 = p := ⟨(max y1 0).toNat, by omega⟩
      obtain ⟨p2, hp2⟩ : ∃ p : Nat, max y2 0 = p := ⟨(max y2 0).toNat, by omega⟩
      rw [hp1, hp2, Int.toNat_natCast, Int.toNat_natCast] at hrun
      have hq1 : p1 ≤ z + K := by omega
      have hq2 : p2 ≤ z + K := by omega
      have HRN := Lib.hid hrun
      have hle1 := hle.2.1
      have hBr := Nat.le_trans hB HK.out.size
      clear he hca hstp hac hrun hle hBD hC HRUN
      by_cases hA : e1 / 2 ^ 14 % 2 = 1
      · have hbt : bits .and .i64 (e1 : Int) 16384 = 16384 := flag_yes e1 14 hle1 (by decide) 16384 rfl hA
        have hrn := HRN.out
        rw [if_pos hA] at hrn
        by_cases h64 : 64 < re + 1
        · have d2 : decide ((64 : Int) < (re : Int) + 1) = true := by simp; omega
          rw [if_pos h64] at hrn
          have HRN := Lib.hid hrn
          clear hrn hA
          go_wp2_with (first
            | (go_at_call 39; (with_reducible refine HC1.out.mono ?_); rintro e w1 ⟨rfl, hb1⟩; have HK1 := Lib.hid (HK.out.trans (KeepC.of (own := own) hb1 hBr)); have HX1 := Lib.hid (HIB.out _ _ _ HX.out hb1); clear hb1)
            | (go_at_call 40; (with_reducible refine (HS1.out _ HK1.out).mono ?_); rintro e w2 ⟨rfl, hb2⟩; have hBw := Nat.le_trans hB HK1.out.size; have hb2' : Below w1.heap.size w1 (w2.alloc (Obj.cells #[.int .i64 (e0 : Nat), .int .i64 (e1 : Nat), .int .i64 (e2 : Nat), .int .i64 (e3 : Nat)] 44)) := balloc hb2 _; have HK2 := Lib.hid (HK1.out.trans (KeepC.of (own := own) hb2' hBw)); have HX2 := Lib.hid (HIB.out _ _ _ HX1.out hb2'); clear hb2 hb2' hBw)
            | (go_at_call 41; (with_reducible refine (HA1.out _ HX2.out HK2.out).mono ?_); rintro e w3 ⟨rfl, hx3, hk3⟩; have h14 := (hk3.kept w2.heap.size _ _ _ (heap_push _ _ _ |>.trans (if_pos rfl)) (HOWN.out.2.2.1 _)).trans (heap_push _ _ _ |>.trans (if_pos rfl)); have q0 := cell_of_heap h14 0; have q1 := cell_of_heap h14 1; simp only [List.getElem?_toArray, List.getElem?_cons_succ, List.getElem?_cons_zero] at q0 q1; have HX3 := Lib.hid hx3; have HK3 := Lib.hid (HK2.out.trans hk3); clear hx3 hk3 h14))
          go_ret2
          rw [← HRN.out]
          exact ⟨rfl, HX3.out, HK3.out⟩
        · have d2 : decide ((64 : Int) < (re : Int) + 1) = false := by simp; omega
          rw [if_neg h64] at hrn
          have HRN := Lib.hid hrn
          clear hrn hA
          go_wp2_with (first
            | (go_at_call 39; (with_reducible refine HC1.out.mono ?_); rintro e w1 ⟨rfl, hb1⟩; have HK1 := Lib.hid (HK.out.trans (KeepC.of (own := own) hb1 hBr)); have HX1 := Lib.hid (HIB.out _ _ _ HX.out hb1); clear hb1)
            | (go_at_call 40; (with_reducible refine (HS1.out _ HK1.out).mono ?_); rintro e w2 ⟨rfl, hb2⟩; have hBw := Nat.le_trans hB HK1.out.size; have hb2' : Below w1.heap.size w1 (w2.alloc (Obj.cells #[.int .i64 (e0 : Nat), .int .i64 (e1 : Nat), .int .i64 (e2 : Nat), .int .i64 (e3 : Nat)] 44)) := balloc hb2 _; have HK2 := Lib.hid (HK1.out.trans (KeepC.of (own := own) hb2' hBw)); have HX2 := Lib.hid (HIB.out _ _ _ HX1.out hb2'); clear hb2 hb2' hBw)
            | (go_at_call 41; (with_reducible refine (HA1.out _ HX2.out HK2.out).mono ?_); rintro e w3 ⟨rfl, hx3, hk3⟩; have h14 := (hk3.kept w2.heap.size _ _ _ (heap_push _ _ _ |>.trans (if_pos rfl)) (HOWN.out.2.2.1 _)).trans (heap_push _ _ _ |>.trans (if_pos rfl)); have q0 := cell_of_heap h14 0; have q1 := cell_of_heap h14 1; simp only [List.getElem?_toArray, List.getElem?_cons_succ, List.getElem?_cons_zero] at q0 q1; have HX3 := Lib.hid hx3; have HK3 := Lib.hid (HK2.out.trans hk3); clear hx3 hk3 h14))
          go_roundw
          case rel => exact ⟨f, x1, e0, p1, re + 1, st + 1, rfl, by congr 1; split <;> omega, by go_num, by go_num, hnx, by omega, by omega, by omega, HX3.out, HK3.out, HRN.out⟩
          case measure => simp only [RowKit.intOf]; omega
      · have hbt : bits .and .i64 (e1 : Int) 16384 = 0 := flag_no e1 14 hle1 (by decide) 16384 rfl hA
        have hrn := HRN.out
        rw [if_neg hA] at hrn
        by_cases hC0 : C = 0
        · have dC : ((C : Int) == 0) = true := by simp; omega
          rw [if_pos (by rw [hC0]; rfl)] at hrn
          have HRN := Lib.hid hrn
          clear hrn hA hC0
          go_wp2_with (first
            | (go_at_call 39; (with_reducible refine HC1.out.mono ?_); rintro e w1 ⟨rfl, hb1⟩; have HK1 := Lib.hid (HK.out.trans (KeepC.of (own := own) hb1 hBr)); have HX1 := Lib.hid (HIB.out _ _ _ HX.out hb1); clear hb1)
            | (go_at_call 40; (with_reducible refine (HS1.out _ HK1.out).mono ?_); rintro e w2 ⟨rfl, hb2⟩; have hBw := Nat.le_trans hB HK1.out.size; have hb2' : Below w1.heap.size w1 (w2.alloc (Obj.cells #[.int .i64 (e0 : Nat), .int .i64 (e1 : Nat), .int .i64 (e2 : Nat), .int .i64 (e3 : Nat)] 44)) := balloc hb2 _; have HK2 := Lib.hid (HK1.out.trans (KeepC.of (own := own) hb2' hBw)); have HX2 := Lib.hid (HIB.out _ _ _ HX1.out hb2'); clear hb2 hb2' hBw)
            | (go_at_call 41; (with_reducible refine (HA1.out _ HX2.out HK2.out).mono ?_); rintro e w3 ⟨rfl, hx3, hk3⟩; have h14 := (hk3.kept w2.heap.size _ _ _ (heap_push _ _ _ |>.trans (if_pos rfl)) (HOWN.out.2.2.1 _)).trans (heap_push _ _ _ |>.trans (if_pos rfl)); have q0 := cell_of_heap h14 0; have q1 := cell_of_heap h14 1; simp only [List.getElem?_toArray, List.getElem?_cons_succ, List.getElem?_cons_zero] at q0 q1; have HX3 := Lib.hid hx3; have HK3 := Lib.hid (HK2.out.trans hk3); clear hx3 hk3 h14))
          go_ret2
          rw [← HRN.out]
          exact ⟨rfl, HX3.out, HK3.out⟩
        · have dC : ((C : Int) == 0) = false := by simp; omega
          rw [if_neg (by simp; exact hC0)] at hrn
          have HRN := Lib.hid hrn
          clear hrn hA hC0
          go_wp2_with (first
            | (go_at_call 39; (with_reducible refine HC1.out.mono ?_); rintro e w1 ⟨rfl, hb1⟩; have HK1 := Lib.hid (HK.out.trans (KeepC.of (own := own) hb1 hBr)); have HX1 := Lib.hid (HIB.out _ _ _ HX.out hb1); clear hb1)
            | (go_at_call 40; (with_reducible refine (HS1.out _ HK1.out).mono ?_); rintro e w2 ⟨rfl, hb2⟩; have hBw := Nat.le_trans hB HK1.out.size; have hb2' : Below w1.heap.size w1 (w2.alloc (Obj.cells #[.int .i64 (e0 : Nat), .int .i64 (e1 : Nat), .int .i64 (e2 : Nat), .int .i64 (e3 : Nat)] 44)) := balloc hb2 _; have HK2 := Lib.hid (HK1.out.trans (KeepC.of (own := own) hb2' hBw)); have HX2 := Lib.hid (HIB.out _ _ _ HX1.out hb2'); clear hb2 hb2' hBw)
            | (go_at_call 41; (with_reducible refine (HA1.out _ HX2.out HK2.out).mono ?_); rintro e w3 ⟨rfl, hx3, hk3⟩; have h14 := (hk3.kept w2.heap.size _ _ _ (heap_push _ _ _ |>.trans (if_pos rfl)) (HOWN.out.2.2.1 _)).trans (heap_push _ _ _ |>.trans (if_pos rfl)); have q0 := cell_of_heap h14 0; have q1 := cell_of_heap h14 1; simp only [List.getElem?_toArray, List.getElem?_cons_succ, List.getElem?_cons_zero] at q0 q1; have HX3 := Lib.hid hx3; have HK3 := Lib.hid (HK2.out.trans hk3); clear hx3 hk3 h14))
          go_roundw
          case rel => exact ⟨f, x1, e0, p2, 0, st + 1, rfl, by congr 1; split <;> omega, rfl, by go_num, hnx, by omega, by omega, by omega, HX3.out, HK3.out, HRN.out⟩
          case measure => simp only [RowKit.intOf]; omega
end Go.Proofs.YthjnpfhcjacibaaDoor
end
section

/- rear.Read, rear.Take, (*Table).Run: what a subtable that changes the order does to a line. Conditions: the table of verbs lies in memory; sizes. -/
namespace Go.Proofs.YthjnpfhcjacibaaDoor
open Go.RowKit Go.Lib

theorem fn_nil79 (fn : Fn) (first cap : Array Value) (w : World) : (binOp .neq 79 (.func fn first cap) .nilFunc).run Tryd.prog w = .ok (.bool true) w := by kernel_rfl
set_option maxRecDepth 100000 in
set_option maxHeartbeats 1600000 in
theorem rplain_any (B gl g3 g5 g6 gx : Nat) (x : RX) (z : Nat) (e : Ent) (w : World) (h : RIn B gl g3 g5 g6 x w) (hX : w.heap[gx]? = some (.cells #[.func (.func 27) #[] #[.pointer (some ⟨g3, 0, none⟩), .pointer (some ⟨g5, 0, none⟩), .pointer (some ⟨g6, 0, none⟩)]] 79 (0, 0)))
    (hV : VerbsIn w) (hB : B ≤ w.heap.size) (hBl : B ≤ gl) (hB5 : B ≤ g5) (hB6 : B ≤ g6) (hG : 0 < B) (hz : z ≤ 900000000) (hF : e.2.1 ≤ 65535) :
    Calls Tryd.prog 41 #[.int .i64 (z : Nat), entV4 e, .pointer (some ⟨gx, 0, none⟩)] w fun r w' => r = .returned (.tuple #[.int .i64 (z : Nat), .int .i64 ((z : Int) + 1)]) ∧ RIn B gl g3 g5 g6 (actR x z e.2.1) w' ∧ KeepC B ownR w w' := by
  have hAC := allocC
  have hAF := allocF
  have hN := fn_nil79
  obtain ⟨e0, F, e2, e3⟩ := e
  simp only [entV4] at hF ⊢
  have hxl := (Array.getElem?_eq_some_iff.1 hX).1
  have cx := cell_of_heap hX 0
  simp only [List.getElem?_toArray, List.getElem?_cons_zero] at cx
  have HD := Lib.hid (fun (o : Array Value) => rdo_any B gl g3 g5 g6 x z F (e0 : Nat) (e2 : Nat) (e3 : Nat) (w.alloc (.cells o 44)) (h.below (balloc (brefl w) _)) (hV.below (balloc (brefl w) _)) (by simp; omega) hBl hB5 hB6 hG (by omega) hF)
  have HK := Lib.hid (fun (o : Array Value) => KeepC.of (own := ownR) (balloc (brefl w) (.cells o 44)) hB)
  clear h hX hV
  go_enter Tryd.func41, Tryd.ntmps41
  go_wp2_with (go_at_call 27; (with_reducible refine (HD.out _).mono ?_); rintro r w1 ⟨rfl, hr, hk⟩; have HR := Lib.hid hr; have HK1 := Lib.hid ((HK.out _).trans hk); clear hr hk)
  refine bodyPost_ret (v := .tuple #[.int .i64 (z : Nat), .int .i64 ((z : Int) + 1)]) (by simp [results, Tryd.results41, go_sem]) rfl ?_
  exact ⟨rfl, HR.out, HK1.out⟩
def IdsOk (l : List (Int × Int)) : Prop := ∀ p ∈ l, -9223372036854775808 ≤ p.1 ∧ p.1 ≤ 9223372036854775807
theorem ordG_ids {l : List (Int × Int)} (h : IdsOk l) (z : Int) (o : List Int) : IdsOk (ordG l z o) := by
  unfold ordG
  split
  · intro p hp
    unfold putO at hp
    rw [List.mem_append, List.mem_append] at hp
    rcases hp with hp | hp | hp
    · exact h p (List.mem_of_mem_take hp)
    · obtain ⟨y, _, rfl⟩ := List.mem_map.1 hp
      rw [List.getD_eq_getElem?_getD]
      cases hg : l[z.toNat + y.toNat]? with
      | none => exact ⟨by decide, by decide⟩
      | some q => exact h q (List.mem_of_getElem? hg)
    · exact h p (List.mem_of_mem_drop hp)
  · exact h
theorem lineR_ids {l : List (Int × Int)} (h : IdsOk l) (f t v : Nat) : IdsOk (lineR l f t v) := by
  unfold lineR
  split
  · exact ordG_ids h _ _
  · exact h
/-- An entry's doing, as a function. -/
def actRx (x : RX) (z : Nat) (e : Ent) : RX × Int × Int := (actR x z e.2.1, (z : Int), (z : Int) + 1)
/-- What a subtable does to a line. -/
def rearD (bs : List UInt8) (rs : List RP) (l : List (Int × Int)) : RX × Nat × Nat := runD (fun x z => clD bs rs x.1 z) (enM bs 0) (fun x z => clD bs rs x.1 z == 0) actRx (2 * l.length + 128) (l, 0, 0) 0 0 0 1
structure RSee (B gl g3 g5 g6 gx : Nat) (x : RX) (w : World) : Prop where
  inv : RIn B gl g3 g5 g6 x w
  fn : w.heap[gx]? = some (.cells #[.func (.func 27) #[] #[.pointer (some ⟨g3, 0, none⟩), .pointer (some ⟨g5, 0, none⟩), .pointer (some ⟨g6, 0, none⟩)]] 79 (0, 0))
  verbs : VerbsIn w
  ids : IdsOk x.1
theorem ownR_notM : notM ownR := by
  refine ⟨fun k h => ?_, fun k h => ?_, fun k h => ?_, fun k h => ?_, fun k h => ?_, fun k h => ?_, fun k h => ?_⟩ <;> · rcases h with h | h <;> exact absurd h (by decide)
theorem plainf_any (fn : Fn) (first cap : Array Value) (w : World) :
    Calls Tryd.prog 26 #[.func fn first cap] w fun e w' => e = .returned (.func (.func 41) #[] #[.pointer (some ⟨w.heap.size, 0, none⟩)]) ∧ w' = w.alloc (.cells #[.func fn first cap] 79) := by
  go_enter Tryd.func26, Tryd.ntmps26
  go_wp2_with fail
  go_ret
  exact ⟨rfl, rfl⟩
theorem RSee.below {B gl g3 g5 g6 gx : Nat} {x : RX} {w w' : World} (h : RSee B gl g3 g5 g6 gx x w) (hb : Below w.heap.size w w') : RSee B gl g3 g5 g6 gx x w' :=
  ⟨h.inv.below hb, (hb.block gx (Array.getElem?_eq_some_iff.1 h.fn).1).trans h.fn, h.verbs.below hb, h.ids⟩
theorem RSee.act {B gl g3 g5 g6 gx : Nat} {x : RX} {w : World} (h : RSee B gl g3 g5 g6 gx x w) (hB : B ≤ w.heap.size) (hBl : B ≤ gl) (hB5 : B ≤ g5) (hB6 : B ≤ g6) (hG : 0 < B) (z : Nat) (hz : z ≤ 900000000) (e : Ent) (hF : e.2.1 ≤ 65535) :
    Calls Tryd.prog 41 #[.int .i64 (z : Nat), entV4 e, .pointer (some ⟨gx, 0, none⟩)] w fun r w' => r = .returned (.tuple #[.int .i64 (actRx x z e).2.1, .int .i64 (actRx x z e).2.2]) ∧ RSee B gl g3 g5 g6 gx (actRx x z e).1 w' ∧ KeepC B ownR w w' := by
  refine (rplain_any B gl g3 g5 g6 gx x z e w h.inv h.fn h.verbs hB hBl hB5 hB6 hG hz hF).mono ?_
  rintro r w' ⟨rfl, h1, h2⟩
  exact ⟨rfl, ⟨h1, (h2.kept gx _ _ _ h.fn (fun h_ => by rcases h_ with h_ | h_ <;> exact absurd h_ (by decide))).trans h.fn, h.verbs.keepB h2.below hG, lineR_ids h.ids _ _ _⟩, h2⟩
set_option maxRecDepth 100000 in
set_option maxHeartbeats 3200000 in
theorem rrun_any (Bm g gt : Nat) (bs : List UInt8) (glyphs : Nat) (rs : List RP) (S B gl : Nat) (a : Option Addr) (c : Nat) (l : List (Int × Int)) (w : World)
    (hT : w.heap[gt]? = some (.cells #[.pointer (some ⟨g, 0, none⟩)] 69 (0, 0))) (hM : MIs Bm g bs 0 rs S w) (hS : S ≤ 65536) (hok : MOk bs glyphs 0 rs S) (hg1 : 1 ≤ glyphs) (hfit : FitL (tabR (bs.drop (num bs 4 4)) rs).1 (tabR (bs.drop (num bs 4 4)) rs).2)
    (hG : GIs B gl a c l w) (hV : VerbsIn w) (hB : B ≤ w.heap.size) (hBl : B ≤ gl) (hVB : 0 < B) (hids : IdsOk l) (hl : l.length ≤ 1000000) :
    Calls Tryd.prog 12 #[.pointer (some ⟨gt, 0, none⟩), .pointer (some ⟨gl, 0, none⟩)] w fun e w' => e = .returned (.int .i64 ((rearD bs rs l).2.2 : Nat)) ∧ (∃ a' c', GIs B gl a' c' (rearD bs rs l).1.1 w') ∧ KeepC B ownR w w' := by
  have hAC := allocC
  have hAF := allocF
  go_enter Tryd.func12, Tryd.ntmps12
  go_wp2_with fail
  obtain ⟨W, hW⟩ : ∃ W, W = ((w.alloc (Obj.cells #[.pointer (some ⟨gl, 0, none⟩)] 35)).alloc (Obj.cells #[.int .i64 0] 3)).alloc (Obj.cells #[.int .i64 0] 3) := ⟨_, rfl⟩
  have hbW : Below w.heap.size w W := by rw [hW]; exact balloc (balloc (balloc (brefl w) _) _) _
  have hzW : W.heap.size = w.heap.size + 1 + 1 + 1 := by rw [hW]; simp
  have h3 : W.heap[w.heap.size]? = some (.cells #[.pointer (some ⟨gl, 0, none⟩)] 35 (0, 0)) := by
    rw [hW, heap_push, if_neg (by simp only [World.size_alloc]; omega), heap_push, if_neg (by simp only [World.size_alloc]; omega), heap_push, if_pos rfl]
  have h5 : W.heap[w.heap.size + 1]? = some (.cells #[.int .i64 ((0 : Nat) : Int)] 3 (0, 0)) := by
    rw [hW, heap_push, if_neg (by simp only [World.size_alloc]; omega), heap_push, if_pos (by simp only [World.size_alloc])]
    rfl
  have h6 : W.heap[w.heap.size + 1 + 1]? = some (.cells #[.int .i64 ((0 : Nat) : Int)] 3 (0, 0)) := by
    rw [hW, heap_push, if_pos (by simp only [World.size_alloc])]
    rfl
  have hI : RIn B gl w.heap.size (w.heap.size + 1) (w.heap.size + 1 + 1) (l, 0, 0) W := ⟨⟨a, c, hG.below hbW⟩, h3, h5, h6, by omega, hl, Nat.zero_le _, Nat.zero_le _⟩
  have ht := (hbW.block gt (Array.getElem?_eq_some_iff.1 hT).1).trans hT
  rw [← hW]
  have hsee : RSee B gl w.heap.size (w.heap.size + 1) (w.heap.size + 1 + 1) W.heap.size (l, 0, 0) (W.alloc (.cells #[.func (.func 27) #[] #[.pointer (some ⟨w.heap.size, 0, none⟩), .pointer (some ⟨w.heap.size + 1, 0, none⟩), .pointer (some ⟨w.heap.size + 1 + 1, 0, none⟩)]] 79)).drew :=
    ⟨hI.below (bdrew1 (balloc (brefl W) _)), by show (W.alloc _).heap[W.heap.size]? = _; rw [heap_push]; exact if_pos rfl, (hV.below hbW).below (bdrew1 (balloc (brefl W) _)), hids⟩
  have hbX : Below w.heap.size w (W.alloc (.cells #[.func (.func 27) #[] #[.pointer (some ⟨w.heap.size, 0, none⟩), .pointer (some ⟨w.heap.size + 1, 0, none⟩), .pointer (some ⟨w.heap.size + 1 + 1, 0, none⟩)]] 79)).drew := hbW.trans ((bdrew1 (balloc (brefl W) _)).mono hbW.size)
  have hrun := drun_any (X := RX) (fun x => x.1) (RSee B gl w.heap.size (w.heap.size + 1) (w.heap.size + 1 + 1) W.heap.size) actRx ownR 1 Bm g bs 0 glyphs rs S B B gl W.heap.size (l, 0, 0) _ (hM.below hbX) hS hok hg1 hfit ownR_notM (Nat.le_trans hB hbX.size) hsee (fun x V V' h hb => h.below hb) (fun x V h => h.inv.line) (fun x V h => h.ids) l.length rfl hl (by omega) (fun x z e => ⟨by simp [actRx]; omega, by simp [actRx]⟩)
    (fun x V z e h hk hz _ hF _ _ => h.act (Nat.le_trans (Nat.le_trans hB hbX.size) hk.size) hBl (by omega) (by omega) hVB z (by omega) e hF)
  change Calls _ _ _ _ (fun e w' => e = .returned (.tuple #[.int .i64 ((rearD bs rs l).2.1 : Nat), .int .i64 ((rearD bs rs l).2.2 : Nat)]) ∧ RSee B gl w.heap.size (w.heap.size + 1) (w.heap.size + 1 + 1) W.heap.size (rearD bs rs l).1 w' ∧ KeepC B ownR _ w') at hrun
  obtain ⟨R, hR⟩ : ∃ R, R = rearD bs rs l := ⟨_, rfl⟩
  rw [← hR] at hrun
  have HR := Lib.hid hR
  clear hR
  have HRUN := Lib.hid hrun
  have HKX := Lib.hid (KeepC.of (own := ownR) hbX hB)
  have HBW := Lib.hid hbW
  have hzW' : w.heap.size + 1 + 1 < W.heap.size := by omega
  clear hzW hW hI h5 h6 hsee hbX hrun hM hok hfit hG hV hids hT
  refine wp_region_tree (.step 0 (.step 1 (.step 2 (.step 3 (.step 4 (.step 5 (.step 6 (.step 7 (.step 8 (.step 9 (.step 10 (.step 11 (.step 12 .nil))))))))))))) (by kernel_rfl) (by kernel_rfl) (by kernel_rfl) (by kernel_rfl) (by intro _ _ d_ _ _ h_; cases d_ <;> first | exact h_ | (dsimp +zetaDelta only at h_ ⊢; exact h_)) (fun w' => ∃ p : KepP (ownR) W, w' = p.val) (kepP_start _ _) ?_
  have hK0_ := fun (p : KepP (ownR) W) (o : Nat) => p.is.cell ht (by first | (intro h_; exact absurd h_.1 (by decide)) | (intro h_; exact h_.2 rfl) | (intro h_; rcases h_ with h_ | h_ | h_ <;> exact absurd h_ (by decide)) | (intro h_; rcases h_ with h_ | h_ <;> exact absurd h_ (by decide))) o
  have hK1_ := fun (p : KepP (ownR) W) (o : Nat) => p.is.cell h3 (by first | (intro h_; exact absurd h_.1 (by decide)) | (intro h_; exact h_.2 rfl) | (intro h_; rcases h_ with h_ | h_ | h_ <;> exact absurd h_ (by decide)) | (intro h_; rcases h_ with h_ | h_ <;> exact absurd h_ (by decide))) o
  (refine tree_quiet (by simp only [List.getElem?_toArray, List.getElem?_cons_succ, List.getElem?_cons_zero]; rfl) (by rfl) (by rfl) (fun K_ hK_ => ?_); go_big_quiet_op; refine hK_ _ ?_; clear hK_ K_)
  (refine tree_quiet (by simp only [List.getElem?_toArray, List.getElem?_cons_succ, List.getElem?_cons_zero]; rfl) (by rfl) (by rfl) (fun K_ hK_ => ?_); go_big_quiet_op; refine hK_ _ ?_; clear hK_ K_)
  (refine tree_quiet (by simp only [List.getElem?_toArray, List.getElem?_cons_succ, List.getElem?_cons_zero]; rfl) (by rfl) (by rfl) (fun K_ hK_ => ?_); go_big_quiet_op; refine hK_ _ ?_; clear hK_ K_)
  (refine tree_quiet (by simp only [List.getElem?_toArray, List.getElem?_cons_succ, List.getElem?_cons_zero]; rfl) (by rfl) (by rfl) (fun K_ hK_ => ?_); go_big_quiet_op; refine hK_ _ ?_; clear hK_ K_)
  (refine tree_quiet (by simp only [List.getElem?_toArray, List.getElem?_cons_succ, List.getElem?_cons_zero]; rfl) (by rfl) (by rfl) (fun K_ hK_ => ?_); go_big_quiet_op; refine hK_ _ ?_; clear hK_ K_)
  (refine tree_quiet (by simp only [List.getElem?_toArray, List.getElem?_cons_succ, List.getElem?_cons_zero]; rfl) (by rfl) (by rfl) (fun K_ hK_ => ?_); go_big_quiet_op; refine hK_ _ ?_; clear hK_ K_)
  (refine tree_run (by simp only [List.getElem?_toArray, List.getElem?_cons_succ, List.getElem?_cons_zero]; rfl) (by rfl) (by rfl) (fun K_ hK_ => ?_); have HK_ := Lib.hid hK_; clear hK_; go_wp2_with (first | (go_at_call 26; (with_reducible refine (plainf_any _ _ _ _).mono ?_); rintro e w5 ⟨rfl, rfl⟩; have hko4 : KeptO ownR W (W.drew.alloc (.cells #[.func (.func 27) #[] #[.pointer (some ⟨w.heap.size, 0, none⟩), .pointer (some ⟨w.heap.size + 1, 0, none⟩), .pointer (some ⟨w.heap.size + 1 + 1, 0, none⟩)]] 79)) := KeptO.below (balloc (bdrew1 (brefl W)) _); have hko5 : KeptO ownR W (W.alloc (.cells #[.func (.func 27) #[] #[.pointer (some ⟨w.heap.size, 0, none⟩), .pointer (some ⟨w.heap.size + 1, 0, none⟩), .pointer (some ⟨w.heap.size + 1 + 1, 0, none⟩)]] 79)).drew := KeptO.below (bdrew1 (balloc (brefl W) _))) | (go_at_call 25; (with_reducible refine HRUN.out.mono ?_); rintro e w7 ⟨rfl, hx7, hk7⟩; have HX7 := Lib.hid hx7; have HK7 := Lib.hid (HKX.out.trans hk7); have hko7 : KeptO ownR W w7 := hko5.trans ⟨hk7.size, hk7.kept⟩; clear hx7 hk7)); refine HK_.out _ _ (kepP_ofA) ?_; clear HK_)
  (refine tree_run (by simp only [List.getElem?_toArray, List.getElem?_cons_succ, List.getElem?_cons_zero]; rfl) (by rfl) (by rfl) (fun K_ hK_ => ?_); have HK_ := Lib.hid hK_; clear hK_; go_wp2_with (first | (go_at_call 26; (with_reducible refine (plainf_any _ _ _ _).mono ?_); rintro e w5 ⟨rfl, rfl⟩; have hko4 : KeptO ownR W (W.drew.alloc (.cells #[.func (.func 27) #[] #[.pointer (some ⟨w.heap.size, 0, none⟩), .pointer (some ⟨w.heap.size + 1, 0, none⟩), .pointer (some ⟨w.heap.size + 1 + 1, 0, none⟩)]] 79)) := KeptO.below (balloc (bdrew1 (brefl W)) _); have hko5 : KeptO ownR W (W.alloc (.cells #[.func (.func 27) #[] #[.pointer (some ⟨w.heap.size, 0, none⟩), .pointer (some ⟨w.heap.size + 1, 0, none⟩), .pointer (some ⟨w.heap.size + 1 + 1, 0, none⟩)]] 79)).drew := KeptO.below (bdrew1 (balloc (brefl W) _))) | (go_at_call 25; (with_reducible refine HRUN.out.mono ?_); rintro e w7 ⟨rfl, hx7, hk7⟩; have HX7 := Lib.hid hx7; have HK7 := Lib.hid (HKX.out.trans hk7); have hko7 : KeptO ownR W w7 := hko5.trans ⟨hk7.size, hk7.kept⟩; clear hx7 hk7)); refine HK_.out _ _ (kepP_ofA) ?_; clear HK_)
  (refine tree_quiet (by simp only [List.getElem?_toArray, List.getElem?_cons_succ, List.getElem?_cons_zero]; rfl) (by rfl) (by rfl) (fun K_ hK_ => ?_); go_big_quiet_op; refine hK_ _ ?_; clear hK_ K_)
  (refine tree_quiet (by simp only [List.getElem?_toArray, List.getElem?_cons_succ, List.getElem?_cons_zero]; rfl) (by rfl) (by rfl) (fun K_ hK_ => ?_); go_big_quiet_op; refine hK_ _ ?_; clear hK_ K_)
  (refine tree_quiet (by simp only [List.getElem?_toArray, List.getElem?_cons_succ, List.getElem?_cons_zero]; rfl) (by rfl) (by rfl) (fun K_ hK_ => ?_); go_big_quiet_op; refine hK_ _ ?_; clear hK_ K_)
  (refine tree_quiet (by simp only [List.getElem?_toArray, List.getElem?_cons_succ, List.getElem?_cons_zero]; rfl) (by rfl) (by rfl) (fun K_ hK_ => ?_); go_big_quiet_op; refine hK_ _ ?_; clear hK_ K_)
  (refine tree_quiet (by simp only [List.getElem?_toArray, List.getElem?_cons_succ, List.getElem?_cons_zero]; rfl) (by rfl) (by rfl) (fun K_ hK_ => ?_); go_big_quiet_op; refine hK_ _ ?_; clear hK_ K_)
  refine tree_nil ?_
  clear hK0_ hK1_
  go_wp2_with fail
  go_ret
  rw [← HR.out]
  exact ⟨rfl, HX7.out.inv.line, HK7.out⟩
/-- A subtable in memory. -/
structure TIs (B gt : Nat) (bs : List UInt8) (rs : List RP) (S : Nat) (w : World) : Prop where
  is : ∃ g, w.heap[gt]? = some (.cells #[.pointer (some ⟨g, 0, none⟩)] 69 (0, 0)) ∧ MIs B g bs 0 rs S w
  ge : B ≤ gt
theorem TIs.below {B gt : Nat} {bs : List UInt8} {rs : List RP} {S : Nat} {w w' : World} (h : TIs B gt bs rs S w) (hb : Below w.heap.size w w') : TIs B gt bs rs S w' := by
  obtain ⟨⟨g, h1, h2⟩, h3⟩ := h
  exact ⟨⟨g, (hb.block gt (Array.getElem?_eq_some_iff.1 h1).1).trans h1, h2.below hb⟩, h3⟩
set_option maxRecDepth 100000 in
set_option maxHeartbeats 1600000 in
theorem rread_some (a : Option Addr) (n c : Nat) (bs : List UInt8) (glyphs : Nat) (zg : Int) (hzg : zg = (glyphs : Nat)) (rs : List RP) (S : Nat) (w : World) (h : Has w a (bytesV bs)) (hl : bs.length = n) (hn : n ≤ c) (hc : c ≤ maxLen) (hg1 : 1 ≤ glyphs) (hg2 : glyphs ≤ 65535) (hok : MOk bs glyphs 0 rs S) :
    Calls Tryd.prog 9 #[.slice a n c, .int .i64 zg] w fun e w' => ∃ gt, e = .returned (.tuple #[.pointer (some ⟨gt, 0, none⟩), .int .i64 0]) ∧ TIs w.heap.size gt bs rs S w' ∧ Below w.heap.size w w' := by
  subst hzg
  have hAC := allocC
  have hAF := allocF
  have HRD := Lib.hid (mread_some a n c bs glyphs 0 (glyphs : Nat) 0 rfl rfl rs S w h hl hn hc hg1 hg2 (by omega) hok)
  clear h hl hok hAC hAF
  go_enter Tryd.func9, Tryd.ntmps9
  go_wp2_with (go_at_call 23; (with_reducible refine HRD.out.mono ?_); rintro e w1 ⟨g, rfl, hM, hb1⟩; have HM := Lib.hid hM; clear hM)
  go_ret2
  exact ⟨_, rfl, ⟨⟨g, by rw [heap_push]; exact if_pos rfl, HM.out.below (balloc (brefl _) _)⟩, hb1.size⟩, balloc hb1 _⟩
set_option maxRecDepth 100000 in
theorem rread_none (a : Option Addr) (n c : Nat) (bs : List UInt8) (glyphs : Nat) (zg : Int) (hzg : zg = (glyphs : Nat)) (w : World) (h : Has w a (bytesV bs)) (hl : bs.length = n) (hn : n ≤ c) (hc : c ≤ maxLen) (hg1 : 1 ≤ glyphs) (hg2 : glyphs ≤ 65535) (hno : ∀ rs S, ¬ MOk bs glyphs 0 rs S) :
    Calls Tryd.prog 9 #[.slice a n c, .int .i64 zg] w fun e w' => e = .returned (.tuple #[.pointer none, .int .i64 2]) ∧ Below w.heap.size w w' := by
  have HRD := Lib.hid (mread_none a n c bs glyphs 0 (glyphs : Nat) 0 rfl rfl w h hl hn hc hg1 hg2 (by omega) hno)
  clear h hl hno
  go_enter Tryd.func9, Tryd.ntmps9
  go_wp2_with (go_at_call 23; (with_reducible refine HRD.out.mono ?_); rintro e w1 ⟨rfl, hb1⟩)
  go_ret2
  exact ⟨rfl, hb1⟩
end Go.Proofs.YthjnpfhcjacibaaDoor
end
section

/- A change of the order keeps all glyphs, each once; so does a machine of such changes. No walk. -/
namespace Go.Proofs.YthjnpfhcjacibaaDoor
open Go.RowKit Go.Lib

/-- Where a place of the changed line comes from. -/
def srcO (f : Nat) (o : List Int) (i : Nat) : Nat := if i < f then i else if i < f + o.length then f + (o.getD (i - f) 0).toNat else i
theorem putO_get (l : List (Int × Int)) (f : Nat) (o : List Int) (ho : IsOrd o) (hf : f + o.length ≤ l.length) (i : Nat) (hi : i < l.length) : (putO l f o o.length)[i]? = l[srcO f o i]? ∧ srcO f o i < l.length := by
  unfold putO srcO
  rw [List.take_length]
  have e1 : (l.take f).length = f := by rw [List.length_take]; omega
  have e2 : (pickG l f o).length = o.length := by rw [pickG, List.length_map]
  by_cases h1 : i < f
  · rw [if_pos h1, List.getElem?_append_left (by omega), List.getElem?_take, if_pos h1]
    exact ⟨rfl, hi⟩
  rw [if_neg h1, List.getElem?_append_right (by omega), e1]
  by_cases h2 : i < f + o.length
  · rw [if_pos h2, List.getElem?_append_left (by omega)]
    have hl : i - f < o.length := by omega
    have hg : o[i - f]? = some o[i - f] := List.getElem?_eq_getElem hl
    have hm := ho.1 _ (List.getElem_mem hl)
    have hd : o.getD (i - f) 0 = o[i - f] := by rw [List.getD_eq_getElem?_getD, hg]; rfl
    rw [pickG, List.getElem?_map, hg, hd]
    have hlt : f + o[i - f].toNat < l.length := by omega
    refine ⟨?_, hlt⟩
    simp only [Option.map_some]
    rw [List.getD_eq_getElem?_getD, List.getElem?_eq_getElem hlt]
    rfl
  · rw [if_neg h2, List.getElem?_append_right (by omega), e2, List.getElem?_drop]
    refine ⟨?_, hi⟩
    congr 1
    omega
theorem srcO_inj (f : Nat) (o : List Int) (ho : IsOrd o) (i j : Nat) (h : srcO f o i = srcO f o j) : i = j := by
  have key : ∀ i, f ≤ i → i < f + o.length → ∃ z : Int, o[i - f]? = some z ∧ 0 ≤ z ∧ z < (o.length : Int) ∧ srcO f o i = f + z.toNat := by
    intro i h1 h2
    have hl : i - f < o.length := by omega
    have hm := ho.1 _ (List.getElem_mem hl)
    refine ⟨o[i - f], List.getElem?_eq_getElem hl, hm.1, hm.2, ?_⟩
    unfold srcO
    rw [if_neg (by omega), if_pos h2, List.getD_eq_getElem?_getD, List.getElem?_eq_getElem hl]
    rfl
  have out : ∀ i, ¬ (f ≤ i ∧ i < f + o.length) → srcO f o i = i := by
    intro i h1
    unfold srcO
    by_cases h2 : i < f
    · rw [if_pos h2]
    · rw [if_neg h2, if_neg (by omega)]
  by_cases hi : f ≤ i ∧ i < f + o.length
  · obtain ⟨z, z1, z2, z3, z4⟩ := key i hi.1 hi.2
    by_cases hj : f ≤ j ∧ j < f + o.length
    · obtain ⟨y, y1, y2, y3, y4⟩ := key j hj.1 hj.2
      have hzy : z = y := by omega
      subst hzy
      have := (List.getElem?_inj (i := i - f) (j := j - f) (by have := (List.getElem?_eq_some_iff.1 z1).1; omega) ho.2).1 (z1.trans y1.symm)
      omega
    · have := out j hj
      omega
  · have h1 := out i hi
    by_cases hj : f ≤ j ∧ j < f + o.length
    · obtain ⟨y, y1, y2, y3, y4⟩ := key j hj.1 hj.2
      omega
    · have := out j hj
      omega
/-- Each glyph is one of the first ones, with its cluster, and stands once. -/
structure Keeps (ids : List Int) (l : List (Int × Int)) : Prop where
  len : l.length = ids.length
  each : ∀ (i : Nat) p, l[i]? = some p → ∃ c : Nat, p.2 = (c : Int) ∧ ids[c]? = some p.1
  once : ∀ (i j : Nat) p q, l[i]? = some p → l[j]? = some q → p.2 = q.2 → i = j
theorem Keeps.new (ids : List Int) : Keeps ids (newG ids) := by
  refine ⟨newG_length ids, fun i p h => ?_, fun i j p q hp hq h => ?_⟩
  · rw [newG_get, Option.map_eq_some_iff] at h
    obtain ⟨z, hz, rfl⟩ := h
    exact ⟨i, rfl, hz⟩
  · rw [newG_get, Option.map_eq_some_iff] at hp hq
    obtain ⟨z, hz, rfl⟩ := hp
    obtain ⟨y, hy, rfl⟩ := hq
    simp only at h
    omega
theorem Keeps.ord {ids : List Int} {l : List (Int × Int)} (h : Keeps ids l) (z : Int) (o : List Int) : Keeps ids (ordG l z o) := by
  unfold ordG
  by_cases hok : okO l z o = true
  · rw [if_pos hok]
    unfold okO at hok
    simp only [Bool.and_eq_true, decide_eq_true_eq] at hok
    obtain ⟨⟨h1, h2⟩, h3⟩ := hok
    have hf : z.toNat + o.length ≤ l.length := by omega
    have hlen := putO_length l z.toNat o o.length (Nat.le_refl _) hf
    have hget := fun i hi => putO_get l z.toNat o h3 hf i hi
    refine ⟨hlen.trans h.len, fun i p hp => ?_, fun i j p q hp hq e => ?_⟩
    · have hi : i < l.length := by rw [← hlen]; exact (List.getElem?_eq_some_iff.1 hp).1
      rw [(hget i hi).1] at hp
      exact h.each _ _ hp
    · have hi : i < l.length := by rw [← hlen]; exact (List.getElem?_eq_some_iff.1 hp).1
      have hj : j < l.length := by rw [← hlen]; exact (List.getElem?_eq_some_iff.1 hq).1
      rw [(hget i hi).1] at hp
      rw [(hget j hj).1] at hq
      exact srcO_inj _ _ h3 _ _ (h.once _ _ _ _ hp hq e)
  · rw [if_neg hok]
    exact h
theorem Keeps.line {ids : List Int} {l : List (Int × Int)} (h : Keeps ids l) (f t v : Nat) : Keeps ids (lineR l f t v) := by
  unfold lineR
  split
  · exact h.ord _ _
  · exact h
/-- A subtable keeps all glyphs. -/
theorem rearD_keeps (bs : List UInt8) (rs : List RP) (ids : List Int) : Keeps ids (rearD bs rs (newG ids)).1.1 :=
  runD_keeps (fun x : RX => Keeps ids x.1) (fun x z e h => h.line _ _ _) _ _ _ _ _ _ (Keeps.new ids)
/-- Without verbs, or without a row, the line stays as it is. -/
theorem lineR_idle0 (l : List (Int × Int)) (f t : Nat) : lineR l f t 0 = l := by
  unfold lineR
  rw [if_neg]
  rintro ⟨h, _⟩
  exact absurd h (by decide)
theorem ends_one : ∀ v, v < 16 → 1 ≤ v → 1 ≤ (preV v).length + (sufV v).length := by decide
theorem lineR_idle1 (l : List (Int × Int)) (f v : Nat) : lineR l f 0 v = l := by
  unfold lineR
  rw [if_neg]
  rintro ⟨h1, h2, h3⟩
  have := ends_one v (by omega) (by omega)
  rw [Int.toNat_natCast] at h3
  omega
end Go.Proofs.YthjnpfhcjacibaaDoor
end
section

/- The contract of seek.Read. Conditions: as many bytes as the slice says; all numbers within 64 bits. -/
namespace Go.Proofs.YthjnpfhcjacibaaDoor
open Go.RowKit

theorem owns_set_ty {w : World} {b e s n g cap o : Nat} {xs : List Value} (h : w.ownsRow b e s (.slice (some ⟨g, 0, none⟩) n cap) n xs) {b2 e2 s2 n2 : Nat} {v2 : Value} {xs2 : List Value} (h2 : w.ownsRow b2 e2 s2 v2 n2 xs2) (he : e ≠ e2) (u : Value) : (w.setCell ⟨g, o, none⟩ u).ownsRow b2 e2 s2 v2 n2 xs2 := by
  rcases h.2 with ⟨hv, _⟩ | ⟨g', cap', cur, hv, _, hh, _⟩
  · cases hv
  · injection hv with h1
    injection h1 with h1
    injection h1 with h1 _ _
    subst h1
    exact set_owns u h2 (own_neE h2 hh he)
theorem stake_ok (a : Option Addr) (n c : Nat) (bs : List UInt8) (j need keys : Nat) (w : World) (h : Has w a (bytesV bs)) (hl : bs.length = n) (hn : n ≤ c) (hc : c ≤ maxLen)
    (h2 : 2 ≤ need) (hn63 : need ≤ 9223372036854775807) (h1 : 1 ≤ keys) (hkn : 2 * keys ≤ need) (hok : skOk bs j need) :
    Calls Tryd.prog 60 #[.agg #[.slice a n c], .int .i64 (j : Nat), .int .i64 (need : Nat), .int .i64 (keys : Nat)] w fun e w' => ∃ g, e = .returned (.slice (some ⟨g, 0, none⟩) (skM bs j keys) (skM bs j keys)) ∧ w'.ownsRow w.heap.size 58 1 (.slice (some ⟨g, 0, none⟩) (skM bs j keys) (skM bs j keys)) (skM bs j keys) (rowsV a c j (skS bs j) (skM bs j keys)) ∧ Below w.heap.size w w' := by
  have := hok.head
  have hm : c ≤ 9223372036854775807 := hc
  refine (stake_any a n c bs j need keys w h hl hn hc (by omega) h2 hn63 h1 hkn).mono ?_
  rintro e w' ⟨(⟨i, g, hi, _, he, ho⟩ | ⟨hno, _⟩), hb⟩
  · obtain rfl : j = i := by omega
    exact ⟨g, he, ho, hb⟩
  · exact absurd hok (hno j rfl)
theorem stake_bad (a : Option Addr) (n c : Nat) (bs : List UInt8) (k : Int) (need keys : Nat) (w : World) (h : Has w a (bytesV bs)) (hl : bs.length = n) (hn : n ≤ c) (hc : c ≤ maxLen) (hk : -9223372036854775808 ≤ k ∧ k ≤ 9223372036854775807)
    (h2 : 2 ≤ need) (hn63 : need ≤ 9223372036854775807) (h1 : 1 ≤ keys) (hkn : 2 * keys ≤ need) (hno : ∀ j : Nat, k = (j : Nat) → ¬ skOk bs j need) :
    Calls Tryd.prog 60 #[.agg #[.slice a n c], .int .i64 k, .int .i64 (need : Nat), .int .i64 (keys : Nat)] w fun e w' => e = .panicked thrown ∧ Below w.heap.size w w' := by
  refine (stake_any a n c bs k need keys w h hl hn hc hk h2 hn63 h1 hkn).mono ?_
  rintro e w' ⟨(⟨i, g, hi, hok, _, _⟩ | ⟨_, he⟩), hb⟩
  · exact absurd hok (hno i hi)
  · exact ⟨he, hb⟩
theorem stake_len {bs : List UInt8} {j need keys : Nat} (h : skOk bs j need) : skM bs j keys ≤ 65535 ∧ skS bs j ≤ 65535 ∧ ∀ i, i < skM bs j keys → j + 10 + i * skS bs j + skS bs j ≤ bs.length := by
  have h1 := num2_lt bs (j + 2)
  have h2 := num2_lt bs j
  have hM : skM bs j keys ≤ skN bs j := by unfold skM; split <;> omega
  refine ⟨by unfold skN at hM; omega, by unfold skS; omega, fun i hi => ?_⟩
  have h3 := h.rows
  have : i * skS bs j + skS bs j ≤ skN bs j * skS bs j := by rw [← Nat.succ_mul]; exact Nat.mul_le_mul_right _ (by omega)
  omega
theorem rowsV_get (a : Option Addr) (c k S M i : Nat) (h : i < M) : (rowsV a c k S M)[i]? = some (rowV a c (k + 10 + i * S) S) := by
  simp [rowsV, List.getElem?_map, List.getElem?_range h]

def Read1R (B : Nat) (w : World) (g4 : Nat) (a : Option Addr) (c : Nat) (bs : List UInt8) (k : Int) (need keys : Nat) (ok : Bool) (w' : World) : Prop :=
  (ok = true ∧ ∃ j g : Nat, k = (j : Nat) ∧ skOk bs j need ∧ w'.heap[g4]? = some (.cells #[.slice (some ⟨g, 0, none⟩) (skM bs j keys) (skM bs j keys)] 128 (0, 0)) ∧ w'.ownsRow w.heap.size 58 1 (.slice (some ⟨g, 0, none⟩) (skM bs j keys) (skM bs j keys)) (skM bs j keys) (rowsV a c j (skS bs j) (skM bs j keys)) ∧ Below B w w' ∧ w.heap.size ≤ w'.heap.size) ∨
  (ok = false ∧ (∀ j : Nat, k = (j : Nat) → ¬ skOk bs j need) ∧ Below w.heap.size w w')
def badArgs (need keys : Int) : Prop := need < 2 ∨ keys < 1 ∨ need / 2 < keys
/-- The rows' bytes, each as new memory. -/
def RowsOwn (B : Nat) (bs : List UInt8) (j S : Nat) (vs : List Value) (w : World) : Prop :=
  ∀ i v, vs[i]? = some v → ∃ a' c', v = .slice a' S c' ∧ w.ownsRow B 5 1 (.slice a' S c') S (bytesV (rowB bs (j + 10 + i * S) S)) ∧ S ≤ c' ∧ c' ≤ maxLen
def SReadIs (bs : List UInt8) (k need keys : Int) (w : World) (e : Ending) (w' : World) : Prop :=
  ((badArgs need keys ∧ e = .returned (.tuple #[.slice none 0 0, .int .i64 1])) ∨
   (¬ badArgs need keys ∧ (∀ j : Nat, k = (j : Nat) → ¬ skOk bs j need.toNat) ∧ e = .returned (.tuple #[.slice none 0 0, .int .i64 2])) ∨
   (¬ badArgs need keys ∧ ∃ j g : Nat, ∃ vs : List Value, k = (j : Nat) ∧ skOk bs j need.toNat ∧ e = .returned (.tuple #[.slice (some ⟨g, 0, none⟩) (skM bs j keys.toNat) (skM bs j keys.toNat), .int .i64 0]) ∧
     w'.ownsRow w.heap.size 22 1 (.slice (some ⟨g, 0, none⟩) (skM bs j keys.toNat) (skM bs j keys.toNat)) (skM bs j keys.toNat) vs ∧ RowsOwn w.heap.size bs j (skS bs j) vs w')) ∧ Below w.heap.size w w'

theorem bytesS_info : (Tryd.prog.info? 22).map (fun i => (i.zero, i.size, i.bytes)) = some (some (.slice none 0 0), 1, 24) := by kernel_rfl
theorem made_slices (n : Nat) : (madeCells (Value.slice none 0 0).cells (n * 1)).toList = zerosV n := by
  apply List.ext_getElem?
  intro j
  simp only [madeCells, Value.cells, zerosV]
  by_cases h : j < n
  · simp [h, Nat.mod_one]
  · simp [h]
theorem RowsOwn.below {B : Nat} {bs : List UInt8} {j S : Nat} {vs : List Value} {w w' : World} (h : RowsOwn B bs j S vs w) (hb : Below w.heap.size w w') : RowsOwn B bs j S vs w' := fun i v hv => by
  obtain ⟨a', c', rfl, h1, h2, h3⟩ := h i v hv
  exact ⟨a', c', rfl, owns_below h1 hb (Nat.le_refl _), h2, h3⟩
def SRdRel (w : World) (bs : List UInt8) (a : Option Addr) (c j S M go g G : Nat) (i : Value) (wr : World) : Prop :=
  ∃ (k : Nat) (vs : List Value), k ≤ M ∧ i = .int .i64 (k : Nat) ∧ vs.length = k ∧ wr.ownsRow w.heap.size 22 1 (.slice (some ⟨go, 0, none⟩) M M) M (vs ++ zerosV (M - k)) ∧ RowsOwn w.heap.size bs j S vs wr ∧
    wr.heap[G]? = some (.cells #[.slice (some ⟨g, 0, none⟩) M M] 128 (0, 0)) ∧ wr.ownsRow w.heap.size 58 1 (.slice (some ⟨g, 0, none⟩) M M) M (rowsV a c j S M) ∧ Below w.heap.size w wr
theorem srd_step {w wr w' : World} {bs : List UInt8} {a a' : Option Addr} {c c' j S M go g G k : Nat} {vs : List Value} {i : Value} (hlt : k < M) (hi : i = .int .i64 ((k + 1 : Nat) : Int)) (hl : vs.length = k) (hO : wr.ownsRow w.heap.size 22 1 (.slice (some ⟨go, 0, none⟩) M M) M (vs ++ zerosV (M - k)))
    (hR : RowsOwn w.heap.size bs j S vs wr) (hG : wr.heap[G]? = some (.cells #[.slice (some ⟨g, 0, none⟩) M M] 128 (0, 0))) (hV : wr.ownsRow w.heap.size 58 1 (.slice (some ⟨g, 0, none⟩) M M) M (rowsV a c j S M)) (hb : Below w.heap.size w wr)
    (hb' : Below wr.heap.size wr w') (hn : w'.ownsRow wr.heap.size 5 1 (.slice a' S c') S (bytesV (rowB bs (j + 10 + k * S) S))) (h1 : S ≤ c') (h2 : c' ≤ maxLen) :
    SRdRel w bs a c j S M go g G i (w'.setCell ⟨go, k, none⟩ (.slice a' S c')) := by
  have hO' := owns_below hO hb' (Nat.le_refl _)
  have hgo : w.heap.size ≤ go := (hO.lt _ rfl).1
  have hGl := (Array.getElem?_eq_some_iff.1 hG).1
  refine ⟨k + 1, vs ++ [.slice a' S c'], hlt, hi, by simp [hl], ?_, ?_, ?_, ?_, bset (hb.trans (hb'.mono hb.size)) hgo _⟩
  · refine owns_eq (hO'.stored k (.slice a' S c')).1 ?_
    obtain ⟨m, hm⟩ : ∃ m, M - k = m + 1 := ⟨M - k - 1, by omega⟩
    rw [hm, zerosV_succ, List.set_append_right _ _ (by omega), hl, Nat.sub_self, List.set_cons_zero, show M - (k + 1) = m by omega]
    simp
  · intro i v hv
    rcases Nat.lt_or_ge i k with g | g
    · rw [List.getElem?_append_left (by omega)] at hv
      obtain ⟨a2, c2, rfl, k1, k2, k3⟩ := hR.below hb' i v hv
      exact ⟨a2, c2, rfl, owns_set_ty hO' k1 (by decide) _, k2, k3⟩
    · rw [List.getElem?_append_right (by omega)] at hv
      have : i = k := by
        rcases Nat.lt_or_ge k i with g2 | g2
        · rw [List.getElem?_eq_none (by simp; omega)] at hv; cases hv
        · omega
      subst this
      rw [hl, Nat.sub_self] at hv
      cases hv
      exact ⟨a', c', rfl, owns_mono (owns_set_ty hO' hn (by decide) _) hb.size, h1, h2⟩
  · rw [set_heap_other _ (by
      intro hE
      subst hE
      rcases hO.2 with ⟨hv, _⟩ | ⟨g', _, _, hv, _, hh, _⟩
      · cases hv
      · injection hv with e1 _ _
        injection e1 with e1
        injection e1 with e1 _ _
        subst e1
        rw [hG] at hh
        injection hh with hh
        injection hh with _ h2 _
        exact absurd h2 (by decide))]
    exact (hb'.block G hGl).trans hG
  · exact owns_set_ty hO' (owns_below hV hb' (Nat.le_refl _)) (by decide) _

end Go.Proofs.YthjnpfhcjacibaaDoor
end
section

/- The contract of seek.Place: where a number stands in a rising list. Condition: the list rises. -/
namespace Go.Proofs.YthjnpfhcjacibaaDoor
open Go.RowKit

def intsV (zs : List Int) : List Value := zs.map (Value.int .i64)
theorem intsV_length (zs : List Int) : (intsV zs).length = zs.length := by simp [intsV]
theorem intsV_get (zs : List Int) (j : Nat) (h : j < zs.length) : (intsV zs)[j]? = some (.int .i64 (zs.getD j 0)) := by
  simp [intsV, List.getElem?_map, List.getElem?_eq_getElem h, List.getD_eq_getElem?_getD]
def IsPlace (zs : List Int) (x : Int) (B : Nat) (w : World) (e : Ending) (w' : World) : Prop :=
  ((∃ i : Nat, i < zs.length ∧ zs.getD i 0 = x ∧ e = .returned (.tuple #[.int .i64 i, .bool true])) ∨ ((∀ i, i < zs.length → zs.getD i 0 ≠ x) ∧ e = .returned (.tuple #[.int .i64 0, .bool false]))) ∧ Below B w w'
end Go.Proofs.YthjnpfhcjacibaaDoor
end
section

/- swashlaw05.speaks returns true. No condition. -/
namespace Go.Proofs.YthjnpfhcjacibaaDoor
open Go.RowKit

def two16 : List UInt8 := [0, 2, 0, 3, 0, 0, 0, 0, 0, 0, 0, 7, 0, 9, 255, 255]
theorem two16_ok : skOk two16 0 2 ∧ skM two16 0 1 = 2 ∧ skS two16 0 = 2 ∧ rowB two16 (0 + 10 + 1 * 2) 2 = [0, 9] := by
  refine ⟨⟨by decide, by decide, by decide⟩, by decide, by decide, by decide⟩
end Go.Proofs.YthjnpfhcjacibaaDoor
end
section

/- The frame of every law's proof: where the Go text returns true and leaves all old blocks, the law's row holds. No condition beside the row's. -/
namespace Go.Proofs.YthjnpfhcjacibaaDoor
open Go.ChangeShapes Go.WideShapes Go.ChangeAt Go.RowKit
open Go.ChangeMaps (open_string shut_string)

theorem ownKnob_none : ownKnob Tryd.prog.godebug = none := by kernel_rfl
theorem laid_out : laidOutB Tryd.prog = true := by kernel_rfl

section
variable {H : Type} {enc : TypeId × Value → H}
theorem trod_length {P : Program} {w : World} {b : Nat} {sp : Nat → Bool} {hd : Bool} : ∀ {ts : List TypeId} {vs : List Value} {ds : List (DataW H)} {ps : List MemPlace}, DataW.TrodAll enc P w b sp hd ts vs ds ps → ds.length = ts.length
  | [], vs, ds, ps, h => by obtain ⟨_, rfl, _⟩ := trodAll_nil h; rfl
  | t :: ts, vs, ds, ps, h => by
    obtain ⟨v, vs', d, ds', p, q, rfl, rfl, rfl, _, h'⟩ := trodAll_cons h
    simp [trod_length h']
theorem trod_later {W W' : World} (hb : Below W.heap.size W W') : ∀ {ts : List TypeId} {vs : List Value} {ds : List (DataW H)} {ps : List MemPlace}, (∀ t ∈ ts, Tryd.prog.readableRec t = true ∧ t < Tryd.prog.types.size) →
    DataW.TrodAll enc Tryd.prog W 0 (fun _ => true) true ts vs ds ps → DataW.TrodAll enc Tryd.prog W' 0 (fun b => decide (b < W.heap.size)) true ts vs ds ps
  | [], vs, ds, ps, _, h => by obtain ⟨rfl, rfl, rfl⟩ := trodAll_nil h; exact trodAll_mk0
  | t :: ts, vs, ds, ps, hr, h => by
    obtain ⟨v, vs', d, ds', p, q, rfl, rfl, rfl, h0, h'⟩ := trodAll_cons h
    have k0 := h0
    have lt0 : ∀ x ∈ p, x.block < W.heap.size := by obtain ⟨m, hm⟩ := k0; exact DataW.trod_lt m _ _ _ hm
    exact trodAll_cons_mk (Below.trod laid_out (hr t (by simp)).1 (hr t (by simp)).2 k0 hb lt0) (trod_later hb (fun t ht => hr t (by simp [ht])) h')

/-- What a law's walk must show: of all arguments that are read. -/
def Walks (H : Type) (enc : TypeId × Value → H) (F : FuncId) (ts : List TypeId) : Prop :=
  ∀ (W : World) (base : Nat) (args : Array Value) (ds : List (DataW H)) (p : List MemPlace),
    (∀ (j : Nat) t v, ts[j]? = some t → args[j]? = some v → Value.okWide Tryd.prog W .any base t v) →
    DataW.TrodAll enc Tryd.prog W 0 (fun _ => true) true ts args.toList ds p →
    (DataW.weightsEach Tryd.prog ts ds).all (· ≤ reachBytes) = true →
    Calls Tryd.prog F args W fun e w' => e = .returned (.bool true) ∧ Below W.heap.size W w'

set_option maxRecDepth 100000 in
theorem lift_law {os : Os} {F : FuncId} {fn : Func} {s : ChangeSpec} {conds : List PathCond} (started : os.Started) (noInit : Tryd.checked.prog.inits.idxOf? F = none) (hfn : Tryd.checked.prog.funcs[F]? = some fn)
    (witness : ∃ (w : World) (tape : Tape) (i : Input), w.os = os ∧ (w.forCall tape i).Shaped Tryd.checked.prog ∧ i.vars = [] ∧ Input.okWide Tryd.checked.prog (w.forCall tape i) .any w.heap.size F i ∧
      s.pre6 enc Tryd.checked.prog fn conds false (w.forCall tape i).memory i.args ∧ ({} : Assume).holds Tryd.checked.prog (lone (Frame.enter Tryd.checked.prog F i.args .normal) [] (w.forCall tape i)))
    (hres : fn.resultTypes = #[4]) (hvars : s.vars = []) (hspec : ∀ ds : List (DataW H), ds.length = fn.params.size → s.fn H (ds ++ []) = { results := [.lit (.bool true)], args := ds })
    (hrd : ∀ t ∈ fn.params.toList, Tryd.prog.readableRec t = true ∧ t < Tryd.prog.types.size) (walk : Walks H enc F fn.params.toList) :
    ReturnsInHanded {} Tryd.checked os F .any (s.pre6 enc Tryd.checked.prog fn conds false) (s.post enc Tryd.checked.prog fn false true false false) := by
  refine returnsInHanded_of_change_sized (C := Tryd.checked) ownKnob_none started noInit hfn witness ?_
  intro W base args ds gs before hval hW hcnd hsz _
  have hW' := hW
  obtain ⟨p, q, hA, hV, rfl, hfz, hnd⟩ := hW
  rw [hvars] at hV
  obtain ⟨rfl, rfl⟩ := trodVars_none hV
  have hv : s.plain.varTypes Tryd.checked.prog = [] := by
    simp [ChangeSpec.plain, DataSpec.varTypes, hvars]
  rw [hv, List.append_nil, List.append_nil] at hsz
  have hlen : ds.length = fn.params.size := by simpa using trod_length hA
  have hval' : ∀ (j : Nat) t v, fn.params.toList[j]? = some t → args[j]? = some v → Value.okWide Tryd.prog W .any base t v := fun j t v ht hv => hval j t v (by rw [Array.getElem?_toList] at ht; exact ht) hv
  have hA' : DataW.TrodAll enc Tryd.prog W 0 (fun _ => true) true fn.params.toList args.toList ds p := hA
  have hsz' : (DataW.weightsEach Tryd.prog fn.params.toList ds).all (· ≤ reachBytes) = true := hsz
  refine (walk W base args ds p hval' hA' hsz').mono fun e W' ⟨he, bel⟩ => ?_
  subst he
  refine ⟨_, rfl, ds, [], _, [], p, [], hW', ?_, ?_, ?_, bel.frame _, fun h => by cases h⟩
  · rw [hspec ds hlen, hres]
    exact trodAll_mk1 (shut_bool Tryd.underlying4 _)
  · rw [hspec ds hlen]
    exact trod_later bel hrd hA
  · rw [hspec ds hlen, hvars]
    rfl

/-- What an argument of bytes is. -/
theorem open_bytes {P : Program} {W : World} {base : Nat} {t e : TypeId} {v : Value} {d : DataW H} {p : List MemPlace} (ht : P.underlying t = some (.slice e)) (he : P.underlying e = some (.int .u8)) (hC : P.cellsOf e = 1)
    (hv : Value.okWide P W .any base t v) (h : DataW.Trod enc P W 0 (fun _ => true) true t v d p) :
    ∃ a n c bs, v = .slice a n c ∧ Has W a (bytesV bs) ∧ bs.length = n ∧ n ≤ c ∧ c ≤ maxLen ∧ (a = none → c = 0) := by
  obtain ⟨a, n, c, rfl⟩ := okWide_slice ht hv
  obtain ⟨fuel, hf⟩ := h
  rcases open_ints ht he hC hf with ⟨hcs, _⟩ | ⟨x, l, c', zs, hcs, _, hl, hm, hz, _, hcell, hwz⟩
  · simp [Value.cells] at hcs
    obtain ⟨rfl, rfl, rfl⟩ := hcs
    exact ⟨none, 0, 0, [], rfl, Has.nil _ _, rfl, Nat.le_refl _, Nat.zero_le _, fun _ => rfl⟩
  · simp [Value.cells] at hcs
    obtain ⟨rfl, rfl, rfl⟩ := hcs
    simp only [if_true] at hz
    refine ⟨some x, n, c, (zs.take n).map fun z => UInt8.ofNat z.toNat, rfl, ?_, by simp; omega, hl, hm, fun h => by cases h⟩
    intro j u hu
    refine ⟨x, rfl, ?_⟩
    have hj : j < n := by
      rcases Nat.lt_or_ge j n with g | g
      · exact g
      · rw [List.getElem?_eq_none (by rw [bytesV_length]; simp; omega)] at hu; cases hu
    rw [hcell j (by omega), ← hu]
    have hw := hwz zs[j] (List.getElem_mem (by omega))
    have hb := bounds_u8 hw
    simp only [bytesV, List.map_map, List.getElem?_map, List.getElem?_take, if_pos hj, List.getElem?_eq_getElem (show j < zs.length by omega), Option.map_some, List.getD_eq_getElem?_getD, Option.getD_some, Function.comp_apply, Option.some.injEq, Value.int.injEq, true_and]
    simp only [UInt8.toNat_ofNat']
    omega

theorem flatten_get {s : Nat} : ∀ (us : List (List Value)) (j : Nat) (u : Value), (∀ x ∈ us, x.length = s) → us.flatten[j]? = some u → ∃ i k x, us[i]? = some x ∧ x[k]? = some u ∧ j = i * s + k ∧ k < s
  | [], j, u, _, h => by simp at h
  | x :: us, j, u, hs, h => by
    have hx := hs x (by simp)
    rw [List.flatten_cons, List.getElem?_append] at h
    split at h
    · rename_i hj
      exact ⟨0, j, x, rfl, h, by omega, by omega⟩
    · rename_i hj
      obtain ⟨i, k, y, h1, h2, h3, h4⟩ := flatten_get us (j - x.length) u (fun y hy => hs y (by simp [hy])) h
      refine ⟨i + 1, k, y, by simpa using h1, h2, ?_, h4⟩
      rw [Nat.succ_mul]; omega
theorem flatten_length {s : Nat} : ∀ (us : List (List Value)), (∀ x ∈ us, x.length = s) → us.flatten.length = us.length * s
  | [], _ => by simp
  | x :: us, h => by
    rw [List.flatten_cons, List.length_append, h x (by simp), flatten_length us fun y hy => h y (by simp [hy]), List.length_cons, Nat.succ_mul]; omega

/-- What an argument that is a slice is: rows of cells, one an element, each read as its type says. -/
theorem open_rows {P : Program} {W : World} {base : Nat} {t e : TypeId} {v : Value} {d : DataW H} {p : List MemPlace} (ht : P.underlying t = some (.slice e))
    (hv : Value.okWide P W .any base t v) (h : DataW.Trod enc P W 0 (fun _ => true) true t v d p) :
    ∃ (a : Option Addr) (n c : Nat) (us : List (List Value)), v = .slice a n c ∧ us.length = n ∧ n ≤ c ∧ c ≤ maxLen ∧ (a = none → c = 0) ∧ Has W a us.flatten ∧ ∀ x ∈ us, x.length = P.cellsOf e ∧ ∃ m y, DataW.trod enc P W 0 (fun _ => true) true m e x = some y := by
  obtain ⟨a, n, c, rfl⟩ := okWide_slice ht hv
  obtain ⟨fuel, hf⟩ := h
  rcases Deep.open_slice ht hf with ⟨hcs, _⟩ | ⟨x, l, c', m, k, D, Pl, hcs, _, hl, hm, hmm, _, hi⟩
  · simp [Value.cells] at hcs
    obtain ⟨rfl, rfl, rfl⟩ := hcs
    exact ⟨none, 0, 0, [], rfl, rfl, Nat.le_refl _, Nat.zero_le _, fun _ => rfl, Has.nil _ _, fun x hx => by cases hx⟩
  · simp [Value.cells] at hcs
    obtain ⟨rfl, rfl, rfl⟩ := hcs
    simp only [if_true] at hmm
    subst hmm
    have hlen : ∀ i (h : i < n), (hi i (by omega)).choose.length = P.cellsOf e := fun i h => (World.cells?_some (hi i (by omega)).choose_spec.1).2.1
    refine ⟨some x, n, _, (List.range n).attach.map fun i => (hi i.1 (by have := List.mem_range.1 i.2; omega)).choose, rfl, by simp, hl, hm, (fun h => by cases h), ?_, ?_⟩
    · intro j u hu
      obtain ⟨i, q, y, h1, h2, rfl, hq⟩ := flatten_get (s := P.cellsOf e) _ _ _ (by
        intro y hy
        simp only [List.mem_map] at hy
        obtain ⟨i, _, rfl⟩ := hy
        exact hlen i.1 (List.mem_range.1 i.2)) hu
      refine ⟨x, rfl, ?_⟩
      have hin : i < n := by
        rcases Nat.lt_or_ge i n with g | g
        · exact g
        · rw [List.getElem?_eq_none (by simpa using g)] at h1; cases h1
      have hy : y = (hi i (by omega)).choose := by
        simp only [List.getElem?_map, List.getElem?_attach] at h1
        simp [List.getElem?_range hin] at h1
        exact h1.symm
      have hs := World.cells?_some (hi i (by omega)).choose_spec.1
      have := hs.2.2 q hq
      rw [Deep.add_add] at this
      rw [this, ← hy, h2]
    · intro y hy
      simp only [List.mem_map] at hy
      obtain ⟨i, _, rfl⟩ := hy
      exact ⟨hlen i.1 (List.mem_range.1 i.2), _, _, (hi i.1 (by have := List.mem_range.1 i.2; omega)).choose_spec.2⟩

/-- What an argument that is an array of integers is. -/
theorem open_array {P : Program} {W : World} {base : Nat} {t e : TypeId} {k : IntKind} {n : Nat} {v : Value} {d : DataW H} {p : List MemPlace} (ht : P.underlying t = some (.array n e)) (he : P.underlying e = some (.int k)) (hC : P.cellsOf e = 1) (hCt : P.cellsOf t = n)
    (hv : Value.okWide P W .any base t v) (h : DataW.Trod enc P W 0 (fun _ => true) true t v d p) :
    ∃ zs : List Int, v = .agg (zs.map (Value.int k)).toArray ∧ zs.length = n ∧ ∀ z ∈ zs, (Lit.int k z).wf = true := by
  obtain ⟨cs, rfl, hsz⟩ : ∃ cs, v = .agg cs ∧ cs.size = P.cellsOf t := by
    simp only [Value.okWide, ht] at hv
    obtain ⟨cs, h1, h2, _⟩ := hv
    exact ⟨cs, h1, h2⟩
  obtain ⟨fuel, hf⟩ := h
  obtain ⟨xs, m, _, hx, hlen, hxl, hi⟩ := DataW.trod_array ht hf
  obtain ⟨l⟩ := cs
  simp only [Value.cells] at hlen hi
  have hcl : l.length = n := by simpa [hCt] using hsz
  have hz : ∀ i (h : i < n), ∃ z : Int, l[i]? = some (.int k z) ∧ (Lit.int k z).wf = true := by
    intro i h
    have := hi i h
    rw [hC, Nat.mul_one] at this
    obtain ⟨z, hz, _, hw⟩ := DataW.trod_int he (this.trans (List.getElem?_eq_getElem (by omega)))
    refine ⟨z, ?_, hw⟩
    have h2 : ((l.drop i).take 1)[0]? = some (.int k z) := by rw [hz]; rfl
    simpa [List.getElem?_take, List.getElem?_drop] using h2
  refine ⟨(List.range n).attach.map fun i => (hz i.1 (List.mem_range.1 i.2)).choose, ?_, by simp, ?_⟩
  · congr 2
    apply List.ext_getElem?
    intro i
    by_cases h : i < n
    · rw [(hz i h).choose_spec.1]
      simp [List.getElem?_map, List.getElem?_attach, List.getElem?_range h]
    · rw [List.getElem?_eq_none (by omega), List.getElem?_eq_none (by simp; omega)]
  · intro z h
    simp only [List.mem_map] at h
    obtain ⟨i, _, rfl⟩ := h
    exact (hz i.1 (List.mem_range.1 i.2)).choose_spec.2
/-- What an argument that is a number is. -/
theorem open_int {P : Program} {W : World} {base : Nat} {t : TypeId} {k : IntKind} {v : Value} {d : DataW H} {p : List MemPlace} (ht : P.underlying t = some (.int k))
    (hv : Value.okWide P W .any base t v) (h : DataW.Trod enc P W 0 (fun _ => true) true t v d p) : ∃ n : Int, v = .int k n ∧ (Lit.int k n).wf = true := by
  obtain ⟨n, rfl⟩ := okWide_int ht hv
  obtain ⟨fuel, hf⟩ := h
  obtain ⟨z, hz, _, hw⟩ := DataW.trod_int ht hf
  simp [Value.cells] at hz
  subst hz
  exact ⟨_, rfl, hw⟩
/-- What an argument that is a slice of integers is. -/
theorem open_nums {P : Program} {W : World} {base : Nat} {t e : TypeId} {k : IntKind} {v : Value} {d : DataW H} {p : List MemPlace} (ht : P.underlying t = some (.slice e)) (he : P.underlying e = some (.int k))
    (hv : Value.okWide P W .any base t v) (h : DataW.Trod enc P W 0 (fun _ => true) true t v d p) :
    ∃ (a : Option Addr) (n c : Nat) (zs : List Int), v = .slice a n c ∧ zs.length = n ∧ n ≤ c ∧ c ≤ maxLen ∧ (a = none → c = 0) ∧ Has W a (zs.map (Value.int k)) ∧ ∀ z ∈ zs, (Lit.int k z).wf = true := by
  obtain ⟨a, n, c, us, rfl, hl, hn, hc, hA, hh, hx⟩ := open_rows ht hv h
  have key : ∀ us : List (List Value), (∀ x ∈ us, ∃ m y, DataW.trod enc P W 0 (fun _ => true) true m e x = some y) → ∃ zs : List Int, zs.length = us.length ∧ us.flatten = zs.map (Value.int k) ∧ ∀ z ∈ zs, (Lit.int k z).wf = true := by
    intro us
    induction us with
    | nil => exact fun _ => ⟨[], rfl, rfl, fun z hz => by cases hz⟩
    | cons x us ih =>
      intro h
      obtain ⟨zs, h1, h2, h3⟩ := ih (fun y hy => h y (by simp [hy]))
      obtain ⟨m, y, hy⟩ := h x (by simp)
      obtain ⟨z, rfl, _, hw⟩ := DataW.trod_int he hy
      exact ⟨z :: zs, by simp [h1], by simp [h2], fun z' hz' => by
        rcases List.mem_cons.1 hz' with rfl | hz'
        · exact hw
        · exact h3 z' hz'⟩
  obtain ⟨zs, h1, h2, h3⟩ := key us (fun x hx' => (hx x hx').2)
  exact ⟨a, n, c, zs, rfl, h1.trans hl, hn, hc, hA, h2 ▸ hh, h3⟩
/-- Rows of cells behind a slice that lies in a cell. -/
theorem open_rows_cell {P : Program} {W : World} {t e : TypeId} {f : Nat} {v : Value} {y : DataW H × List MemPlace} (ht : P.underlying t = some (.slice e))
    (h : DataW.trod enc P W 0 (fun _ => true) true f t [v] = some y) :
    ∃ (a : Option Addr) (n c : Nat) (us : List (List Value)), v = .slice a n c ∧ us.length = n ∧ n ≤ c ∧ c ≤ maxLen ∧ (a = none → c = 0) ∧ Has W a us.flatten ∧ ∀ x ∈ us, x.length = P.cellsOf e ∧ ∃ m y, DataW.trod enc P W 0 (fun _ => true) true m e x = some y := by
  have hv : ∃ a n c, v = .slice a n c := by
    rcases Deep.open_slice ht h with ⟨hcs, _⟩ | ⟨x, l, c', m, k, D, Pl, hcs, _⟩
    · exact ⟨none, 0, 0, by simpa using hcs⟩
    · exact ⟨some x, l, c', by simpa using hcs⟩
  obtain ⟨a, n, c, rfl⟩ := hv
  rcases Deep.open_slice ht h with ⟨hcs, _⟩ | ⟨x, l, c', m, k, D, Pl, hcs, _, hl, hm, hmm, _, hi⟩
  · simp at hcs
    obtain ⟨rfl, rfl, rfl⟩ := hcs
    exact ⟨none, 0, 0, [], rfl, rfl, Nat.le_refl _, Nat.zero_le _, fun _ => rfl, Has.nil _ _, fun x hx => by cases hx⟩
  · simp at hcs
    obtain ⟨rfl, rfl, rfl⟩ := hcs
    simp only [if_true] at hmm
    subst hmm
    have hlen : ∀ i (h : i < n), (hi i (by omega)).choose.length = P.cellsOf e := fun i h => (World.cells?_some (hi i (by omega)).choose_spec.1).2.1
    refine ⟨some x, n, _, (List.range n).attach.map fun i => (hi i.1 (by have := List.mem_range.1 i.2; omega)).choose, rfl, by simp, hl, hm, (fun h => by cases h), ?_, ?_⟩
    · intro j u hu
      obtain ⟨i, q, y, h1, h2, rfl, hq⟩ := flatten_get (s := P.cellsOf e) _ _ _ (by
        intro y hy
        simp only [List.mem_map] at hy
        obtain ⟨i, _, rfl⟩ := hy
        exact hlen i.1 (List.mem_range.1 i.2)) hu
      refine ⟨x, rfl, ?_⟩
      have hin : i < n := by
        rcases Nat.lt_or_ge i n with g | g
        · exact g
        · rw [List.getElem?_eq_none (by simpa using g)] at h1; cases h1
      have hy : y = (hi i (by omega)).choose := by
        simp only [List.getElem?_map, List.getElem?_attach] at h1
        simp [List.getElem?_range hin] at h1
        exact h1.symm
      have hs := World.cells?_some (hi i (by omega)).choose_spec.1
      have := hs.2.2 q hq
      rw [Deep.add_add] at this
      rw [this, ← hy, h2]
    · intro y hy
      simp only [List.mem_map] at hy
      obtain ⟨i, _, rfl⟩ := hy
      exact ⟨hlen i.1 (List.mem_range.1 i.2), _, _, (hi i.1 (by have := List.mem_range.1 i.2; omega)).choose_spec.2⟩
end
theorem wf_u8 {n : Int} (h : (Lit.int .u8 n).wf = true) : ∃ k : Nat, n = (k : Nat) ∧ k ≤ 255 := by
  simp [Lit.wf, IntKind.min, IntKind.max, IntKind.signed, IntKind.bits] at h
  exact ⟨n.toNat, by omega, by omega⟩
theorem wf_u16 {n : Int} (h : (Lit.int .u16 n).wf = true) : ∃ k : Nat, n = (k : Nat) ∧ k ≤ 65535 := by
  simp [Lit.wf, IntKind.min, IntKind.max, IntKind.signed, IntKind.bits] at h
  exact ⟨n.toNat, by omega, by omega⟩
theorem wf_u32 {n : Int} (h : (Lit.int .u32 n).wf = true) : ∃ k : Nat, n = (k : Nat) ∧ k ≤ 4294967295 := by
  simp [Lit.wf, IntKind.min, IntKind.max, IntKind.signed, IntKind.bits] at h
  exact ⟨n.toNat, by omega, by omega⟩
theorem wf_i64 {n : Int} (h : (Lit.int .i64 n).wf = true) : -9223372036854775808 ≤ n ∧ n ≤ 9223372036854775807 := by
  simp [Lit.wf, IntKind.min, IntKind.max, IntKind.signed, IntKind.bits] at h
  omega
end Go.Proofs.YthjnpfhcjacibaaDoor
end
section

/- Slices of numbers of two bytes as arguments. No condition. -/
namespace Go.Proofs.YthjnpfhcjacibaaDoor
open Go.ChangeShapes Go.WideShapes Go.ChangeAt Go.RowKit
open Go.ChangeMaps (open_string shut_string)

def u16V (ss : List Nat) : List Value := ss.map fun s => .int .u16 (s : Nat)
theorem u16V_length (ss : List Nat) : (u16V ss).length = ss.length := by simp [u16V]
theorem u16V_get (ss : List Nat) (j : Nat) (h : j < ss.length) : (u16V ss)[j]? = some (.int .u16 (ss.getD j 0 : Nat)) := by
  simp [u16V, List.getElem?_map, List.getElem?_eq_getElem h, List.getD_eq_getElem?_getD]
theorem u16s_of : ∀ zs : List Int, (∀ z ∈ zs, (Lit.int .u16 z).wf = true) → ∃ ss : List Nat, ss.length = zs.length ∧ zs.map (Value.int .u16) = u16V ss ∧ ∀ s ∈ ss, s ≤ 65535
  | [], _ => ⟨[], rfl, rfl, fun s h => by cases h⟩
  | z :: zs, h => by
    obtain ⟨ss, h1, h2, h3⟩ := u16s_of zs (fun y hy => h y (by simp [hy]))
    obtain ⟨k, rfl, hk⟩ := wf_u16 (h z (by simp))
    exact ⟨k :: ss, by simp [h1], by simp [h2, u16V], fun s hs => by
      rcases List.mem_cons.1 hs with rfl | hs
      · exact hk
      · exact h3 s hs⟩

end Go.Proofs.YthjnpfhcjacibaaDoor
end
section

/- The walk of SeekPlace. Condition: as many steps as the slice says. -/
namespace Go.Proofs.YthjnpfhcjacibaaDoor
open Go.RowKit

theorem int_info : (Tryd.prog.info? 3).map (fun i => (i.zero, i.size, i.bytes)) = some (some (.int .i64 0), 1, 8) := by kernel_rfl
/-- The numbers that the law builds: each is above the one ahead by its step and one. -/
def stepsTo : Int → List Nat → List Int
  | _, [] => []
  | x, s :: ss => (x + (1 + s)) :: stepsTo (x + (1 + s)) ss
def lastOf : Int → List Nat → Int
  | x, [] => x
  | x, s :: ss => lastOf (x + (1 + s)) ss
theorem stepsTo_length (x : Int) (ss : List Nat) : (stepsTo x ss).length = ss.length := by
  induction ss generalizing x with
  | nil => rfl
  | cons s ss ih => simp [stepsTo, ih]
theorem stepsTo_snoc (x : Int) (ss : List Nat) (s : Nat) : stepsTo x (ss ++ [s]) = stepsTo x ss ++ [lastOf x ss + (1 + s)] ∧ lastOf x (ss ++ [s]) = lastOf x ss + (1 + s) := by
  induction ss generalizing x with
  | nil => exact ⟨rfl, rfl⟩
  | cons t ss ih =>
    have := ih (x + (1 + t))
    exact ⟨by simp [stepsTo, lastOf, this.1], by simp [lastOf, this.2]⟩
theorem lastOf_le (x : Int) (ss : List Nat) (h : ∀ s ∈ ss, s ≤ 65535) : x ≤ lastOf x ss ∧ lastOf x ss ≤ x + 65536 * ss.length := by
  induction ss generalizing x with
  | nil => simp [lastOf]
  | cons s ss ih =>
    have h1 := ih (x + (1 + s)) (fun t ht => h t (by simp [ht]))
    have h2 := h s (by simp)
    simp only [lastOf, List.length_cons]
    constructor <;> omega
theorem stepsTo_above (x : Int) (ss : List Nat) (i : Nat) (h : i < ss.length) : x < (stepsTo x ss).getD i 0 := by
  induction ss generalizing x i with
  | nil => simp at h
  | cons s ss ih =>
    cases i with
    | zero => simp [stepsTo]; omega
    | succ i =>
      have := ih (x + (1 + s)) i (by simpa using h)
      simp only [stepsTo, List.getD_cons_succ]; omega
theorem stepsTo_rises (x : Int) (ss : List Nat) (i j : Nat) (h : i < j) (hj : j < ss.length) : (stepsTo x ss).getD i 0 < (stepsTo x ss).getD j 0 := by
  induction ss generalizing x i j with
  | nil => simp at hj
  | cons s ss ih =>
    obtain ⟨k, rfl⟩ : ∃ k, j = k + 1 := ⟨j - 1, by omega⟩
    cases i with
    | zero =>
      simp only [stepsTo, List.getD_cons_succ, List.getD_cons_zero]
      exact stepsTo_above _ ss k (by simpa using hj)
    | succ i =>
      simp only [stepsTo, List.getD_cons_succ]
      exact ih _ i k (by omega) (by simpa using hj)
theorem intsV_snoc (zs : List Int) (z : Int) : intsV (zs ++ [z]) = intsV zs ++ [.int .i64 z] := by simp [intsV]
theorem take_next (ss : List Nat) (k : Nat) (h : k < ss.length) : ss.take (k + 1) = ss.take k ++ [ss.getD k 0] := by
  rw [List.take_succ_eq_append_getElem h, List.getD_eq_getElem?_getD, List.getElem?_eq_getElem h]; rfl
def StepRel (B : Nat) (ss : List Nat) (w : World) (l x i : Value) (wr : World) : Prop :=
  ∃ (k : Nat) (a' : Option Addr) (c' : Nat), k ≤ ss.length ∧ i = .int .i64 (k : Nat) ∧ x = .int .i64 (lastOf (-1099511627776) (ss.take k)) ∧ l = .slice a' k c' ∧ k ≤ c' ∧ c' ≤ maxLen ∧ (a' = none → c' = 0) ∧
    wr.ownsRow B 3 1 l k (intsV (stepsTo (-1099511627776) (ss.take k))) ∧ Below w.heap.size w wr
/-- Where a number stands among so many; -1: it doesn't. -/
def thereI (zs : List Int) (x : Int) : Nat → Int
  | 0 => -1
  | k + 1 => if zs.getD k 0 = x then (k : Int) else thereI zs x k
theorem thereI_lt (zs : List Int) (x : Int) (k : Nat) : -1 ≤ thereI zs x k ∧ thereI zs x k < k := by
  induction k with
  | zero => simp [thereI]
  | succ k ih => simp only [thereI]; split <;> omega
theorem thereI_is (zs : List Int) (x : Int) (k i : Nat) (hi : i < k) (hx : zs.getD i 0 = x) (hr : ∀ i j, i < j → j < k → zs.getD i 0 < zs.getD j 0) : thereI zs x k = i := by
  induction k with
  | zero => omega
  | succ k ih =>
    simp only [thereI]
    by_cases h : zs.getD k 0 = x
    · rw [if_pos h]
      rcases Nat.lt_or_ge i k with g | g
      · have := hr i k g (by omega); omega
      · omega
    · rw [if_neg h]
      have : i < k := by
        rcases Nat.lt_or_ge i k with g | g
        · exact g
        · obtain rfl : i = k := by omega
          exact absurd hx h
      exact ih this (fun i j h1 h2 => hr i j h1 (by omega))
theorem thereI_no (zs : List Int) (x : Int) (k : Nat) (h : ∀ i, i < k → zs.getD i 0 ≠ x) : thereI zs x k = -1 := by
  induction k with
  | zero => rfl
  | succ k ih =>
    simp only [thereI]
    rw [if_neg (h k (by omega)), ih (fun i hi => h i (by omega))]
def SeenRel (zs : List Int) (x : Int) (n : Nat) (w : World) (t i : Value) (wr : World) : Prop :=
  ∃ k : Nat, k ≤ n ∧ i = .int .i64 (k : Nat) ∧ t = .int .i64 (thereI zs x k) ∧ Below w.heap.size w wr

end Go.Proofs.YthjnpfhcjacibaaDoor
end
section

/- Contracts of the reference of layer 1: In, U, S16, S32, Rows. Conditions: sizes as the law hands them in. -/
namespace Go.Proofs.YthjnpfhcjacibaaDoor
open Go.RowKit

set_option maxRecDepth 100000 in
set_option maxHeartbeats 800000 in
theorem in_any (n : Nat) (k m : Int) (w : World) (hn : n ≤ maxLen) (hk : -9223372036854775808 ≤ k ∧ k ≤ 9223372036854775807) (hm : -9223372036854775808 ≤ m ∧ m ≤ 9223372036854775807) :
    Calls Tryd.prog 43 #[.int .i64 n, .int .i64 k, .int .i64 m] w fun e w' => e = .returned (.bool (decide (0 ≤ k ∧ 0 ≤ m ∧ k ≤ n ∧ m ≤ n - k))) ∧ w = w' := by
  unfold maxLen at hn
  obtain ⟨hk1, hk2⟩ := hk
  obtain ⟨hm1, hm2⟩ := hm
  obtain ⟨B, hB⟩ : ∃ B : Bool, B = decide (0 ≤ k ∧ 0 ≤ m ∧ k ≤ n ∧ m ≤ n - k) := ⟨_, rfl⟩
  rw [← hB]
  have HB := Lib.hid hB
  clear hB
  by_cases h1 : 0 ≤ k
  · by_cases h2 : 0 ≤ m
    · by_cases h3 : k ≤ n
      · go_enter Tryd.func43, Tryd.ntmps43
        go_wp2
        go_ret
        refine ⟨?_, rfl⟩
        rw [HB.out]
        have : decide (m ≤ (n : Int) - k) = decide (0 ≤ k ∧ 0 ≤ m ∧ k ≤ n ∧ m ≤ n - k) := by rw [decide_eq_decide]; omega
        rw [← this]; rfl
      · have hb : B = false := by rw [HB.out]; simp; omega
        subst hb
        go_enter Tryd.func43, Tryd.ntmps43
        go_wp2
        go_ret
        exact ⟨rfl, rfl⟩
    · have hb : B = false := by rw [HB.out]; simp; omega
      subst hb
      go_enter Tryd.func43, Tryd.ntmps43
      go_wp2
      go_ret
      exact ⟨rfl, rfl⟩
  · have hb : B = false := by rw [HB.out]; simp; omega
    subst hb
    go_enter Tryd.func43, Tryd.ntmps43
    go_wp2
    go_ret
    exact ⟨rfl, rfl⟩

theorem num_lt (bs : List UInt8) (k : Nat) : ∀ i, num bs k i < 256 ^ i
  | 0 => by simp [num]
  | i + 1 => by
    have := num_lt bs k i
    have hb := byte_le (bs.getD (k + i) 0)
    simp only [num, Nat.pow_succ]; omega

def URel (bs : List UInt8) (k m : Nat) (x i : Value) : Prop := ∃ j : Nat, j ≤ m ∧ i = .int .i64 j ∧ x = .int .i64 (num bs k j : Nat)

set_option maxRecDepth 100000 in
set_option maxHeartbeats 800000 in
theorem u_in (a : Option Addr) (n c k m : Nat) (bs : List UInt8) (w : World) (h : Has w a (bytesV bs)) (hl : bs.length = n) (hk : k + m ≤ n) (hm : m ≤ 4) (hn : n ≤ maxLen) :
    Calls Tryd.prog 30 #[.slice a n c, .int .i64 k, .int .i64 m] w fun e w' => e = .returned (.int .i64 (num bs k m : Nat)) ∧ w = w' := by
  have hin := in_any n k m
  have hd : decide ((0 : Int) ≤ k ∧ (0 : Int) ≤ m ∧ (k : Int) ≤ n ∧ (m : Int) ≤ n - k) = true := by simp; omega
  rw [hd] at hin
  have HI := Lib.hid hin
  have HH := Lib.hid h
  have HL := Lib.hid hl
  have hn' := hn
  unfold maxLen at hn
  clear hin hd h hl
  go_enter Tryd.func30, Tryd.ntmps30
  go_wp2_with (first | (go_at_call 43; refine (HI.out _ hn' (by omega) (by omega)).mono ?_; rintro e w_ ⟨rfl, rfl⟩))
  go_loop [7, 8] (URel bs k m) (fun _ i => m - (Go.RowKit.intOf i).toNat)
  case atStart => exact ⟨0, Nat.zero_le _, rfl, rfl⟩
  case round =>
    obtain ⟨j, hj, rfl, rfl⟩ := hrel
    by_cases hlt : j < m
    · obtain ⟨b, o, ha, hb, hg⟩ := HH.out.get (by rw [bytesV_length, HL.out]; omega)
      have hc := hg (k + j) _ (bytesV_get bs (k + j) (by rw [HL.out]; omega))
      have hn1 : num bs k (j + 1) = 256 * num bs k j + (bs.getD (k + j) 0).toNat := rfl
      have HN := Lib.hid hn1
      have hx : num bs k j ≤ 16777215 := by
        have := num_lt bs k j
        have h2 : 256 ^ j ≤ 256 ^ 3 := Nat.pow_le_pow_right (by omega) (by omega)
        omega
      have hby := byte_le (bs.getD (k + j) 0)
      generalize (bs.getD (k + j) 0).toNat = y at *
      generalize num bs k j = x at *
      clear hn1 hg
      subst ha
      go_wp2
      go_round
      case rel => exact ⟨j + 1, by omega, by go_num, by rw [HN.out]; go_num⟩
      case measure => simp [Go.RowKit.intOf]; omega
    · have : j = m := by omega
      subst this
      go_wp2
      go_ret
      exact ⟨rfl, rfl⟩

set_option maxHeartbeats 400000 in
theorem u_out (a : Option Addr) (n c m : Nat) (k : Int) (w : World) (hk : ¬ (0 ≤ k ∧ k + m ≤ n)) (hk' : -9223372036854775808 ≤ k ∧ k ≤ 9223372036854775807) (hm : m ≤ 4) (hn : n ≤ maxLen) :
    Calls Tryd.prog 30 #[.slice a n c, .int .i64 k, .int .i64 m] w fun e w' => e = .returned (.int .i64 (-1)) ∧ w = w' := by
  have hin := in_any n k m
  have hd : decide ((0 : Int) ≤ k ∧ (0 : Int) ≤ m ∧ k ≤ n ∧ (m : Int) ≤ n - k) = false := by simp; omega
  rw [hd] at hin
  have HI := Lib.hid hin
  have HK := Lib.hid hk'
  have hn' := hn
  unfold maxLen at hn
  clear hin hd hk hk'
  go_enter Tryd.func30, Tryd.ntmps30
  go_wp2_with (first | (go_at_call 43; refine (HI.out _ hn' HK.out (by omega)).mono ?_; rintro e w_ ⟨rfl, rfl⟩))
  go_ret
  exact ⟨rfl, rfl⟩
end Go.Proofs.YthjnpfhcjacibaaDoor
end
section

/- Contracts of the law's 'cut': a piece of bytes, cut three ways, or that it was thrown. Conditions: the slice's, and that the kind is one of three. -/
namespace Go.Proofs.YthjnpfhcjacibaaDoor
open Go.RowKit

/-- Is there such a piece? -/
def fitK (n : Nat) (kind : Nat) (k m s : Int) : Prop := match kind with
  | 0 => 0 ≤ k ∧ 0 ≤ m ∧ k ≤ n ∧ m ≤ n - k
  | 1 => 0 ≤ k ∧ k ≤ n
  | _ => 0 ≤ k ∧ k ≤ n ∧ 0 ≤ m ∧ 0 ≤ s ∧ (s = 0 ∨ m.toNat ≤ (n - k.toNat) / s.toNat)
/-- How many bytes it has. -/
def lenK (n : Nat) (kind : Nat) (k m s : Int) : Nat := match kind with
  | 0 => m.toNat
  | 1 => n - k.toNat
  | _ => m.toNat * s.toNat
theorem lenK_le {n kind : Nat} {k m s : Int} (h : fitK n kind k m s) : 0 ≤ k ∧ k.toNat + lenK n kind k m s ≤ n := by
  unfold fitK at h
  unfold lenK
  match kind with
  | 0 => simp only at h ⊢; omega
  | 1 => simp only at h ⊢; omega
  | kind + 2 =>
    simp only at h ⊢
    obtain ⟨h1, h2, h3, h4, h5⟩ := h
    have : m.toNat * s.toNat ≤ n - k.toNat := by
      rcases h5 with rfl | h
      · simp
      · exact Nat.le_trans (Nat.mul_le_mul_right _ h) (Nat.div_mul_le_self _ _)
    omega

/-- How a function that is tried leaves the cells of bytes and of their number. -/
def CutR (W : World) (g4 g5 : Nat) (bs : List UInt8) (ok : Bool) (w' : World) : Prop :=
  (ok = true ∧ ∃ W1 a c, Below W.heap.size W W1 ∧ W1.ownsRow W.heap.size 5 1 (.slice a bs.length c) bs.length (bytesV bs) ∧ bs.length ≤ c ∧ c ≤ maxLen ∧ (a = none → c = 0) ∧ w' = (W1.setCell ⟨g4, 0, none⟩ (.slice a bs.length c)).setCell ⟨g5, 0, none⟩ (.int .i64 bs.length)) ∨ (ok = false ∧ Below W.heap.size W w')

end Go.Proofs.YthjnpfhcjacibaaDoor
end
section

/- Contract of the reference's Rows. Conditions: sizes as the law hands them in. -/
namespace Go.Proofs.YthjnpfhcjacibaaDoor
open Go.RowKit

set_option maxRecDepth 100000 in
set_option maxHeartbeats 800000 in
theorem rref_any (n : Nat) (k m s : Int) (B : Bool) (hB : B = true ↔ fitK n 2 k m s) (w : World) (hn : n ≤ maxLen) (hk : -9223372036854775808 ≤ k ∧ k ≤ 9223372036854775807) (hm : -9223372036854775808 ≤ m ∧ m ≤ 9223372036854775807) (hs : -9223372036854775808 ≤ s ∧ s ≤ 9223372036854775807) :
    Calls Tryd.prog 32 #[.int .i64 n, .int .i64 k, .int .i64 m, .int .i64 s] w fun e w' => e = .returned (.bool B) ∧ w = w' := by
  unfold maxLen at hn
  obtain ⟨hk1, hk2⟩ := hk
  obtain ⟨hm1, hm2⟩ := hm
  obtain ⟨hs1, hs2⟩ := hs
  simp only [fitK] at hB
  have bad : ¬ (0 ≤ k ∧ k ≤ n ∧ 0 ≤ m ∧ 0 ≤ s) → B = false := by
    intro h
    cases B with
    | false => rfl
    | true => exact absurd ((hB.1 rfl)) (fun g => h ⟨g.1, g.2.1, g.2.2.1, g.2.2.2.1⟩)
  by_cases h1 : 0 ≤ k
  · by_cases h2 : 0 ≤ m
    · by_cases h3 : 0 ≤ s
      · by_cases h4 : k ≤ n
        · by_cases h5 : s = 0
          · have hb : B = true := hB.2 ⟨h1, h4, h2, h3, .inl h5⟩
            subst hb
            subst h5
            clear hB bad
            go_enter Tryd.func32, Tryd.ntmps32
            go_wp2
            go_ret
            exact ⟨rfl, rfl⟩
          · obtain ⟨j, rfl⟩ : ∃ j : Nat, k = j := ⟨k.toNat, by omega⟩
            obtain ⟨i, rfl⟩ : ∃ i : Nat, m = i := ⟨m.toNat, by omega⟩
            obtain ⟨t, rfl⟩ : ∃ t : Nat, s = t := ⟨s.toNat, by omega⟩
            simp only [Int.toNat_natCast] at hB
            have hq : (((n : Int) - (j : Int)) / (t : Int)) = (((n - j) / t : Nat) : Int) := by
              rw [← Int.ofNat_sub (by omega)]; exact (Int.natCast_ediv _ _).symm
            have ht : ((t : Int) == 0) = false := by simp; omega
            by_cases h6 : i ≤ (n - j) / t
            · have hb : B = true := hB.2 ⟨h1, h4, h2, h3, .inr h6⟩
              subst hb
              have HQ := Lib.hid (show ((t : Int) == 0 || decide ((i : Int) ≤ ((n : Int) - (j : Int)) / (t : Int))) = true by
                rw [hq]
                generalize (n - j) / t = q at *
                have : decide ((i : Int) ≤ (q : Int)) = true := by simp; omega
                rw [this, Bool.or_true])
              clear hB bad h6 hq ht
              go_enter Tryd.func32, Tryd.ntmps32
              go_wp2
              go_ret
              exact ⟨by rw [HQ.out]; rfl, rfl⟩
            · have hb : B = false := by
                cases B with
                | false => rfl
                | true =>
                  rcases (hB.1 rfl).2.2.2.2 with h | h
                  · exact absurd h h5
                  · exact absurd h h6
              subst hb
              have HQ := Lib.hid (show ((t : Int) == 0 || decide ((i : Int) ≤ ((n : Int) - (j : Int)) / (t : Int))) = false by
                rw [hq, ht]
                generalize (n - j) / t = q at *
                have : decide ((i : Int) ≤ (q : Int)) = false := by simp; omega
                rw [this]; rfl)
              clear hB bad h6 hq ht
              go_enter Tryd.func32, Tryd.ntmps32
              go_wp2
              go_ret
              exact ⟨by rw [HQ.out]; rfl, rfl⟩
        · obtain rfl := bad (fun h => h4 h.2.1)
          clear hB bad
          go_enter Tryd.func32, Tryd.ntmps32
          go_wp2
          go_ret
          exact ⟨rfl, rfl⟩
      · obtain rfl := bad (fun h => h3 h.2.2.2)
        clear hB bad
        go_enter Tryd.func32, Tryd.ntmps32
        go_wp2
        go_ret
        exact ⟨rfl, rfl⟩
    · obtain rfl := bad (fun h => h2 h.2.2.1)
      clear hB bad
      go_enter Tryd.func32, Tryd.ntmps32
      go_wp2
      go_ret
      exact ⟨rfl, rfl⟩
  · obtain rfl := bad (fun h => h1 h.1)
    clear hB bad
    go_enter Tryd.func32, Tryd.ntmps32
    go_wp2
    go_ret
    exact ⟨rfl, rfl⟩
end Go.Proofs.YthjnpfhcjacibaaDoor
end
