/- Joined from: MRefR. -/
import Derived.Test.YtbicnkopmamnpaaJ01
import Derived.Test.YtbicnkopmamnpaaJ12
import Derived.Test.YtbicnkopmamnpaaJ08
import Derived.Test.YtbicnkopmamnpaaJ09
section

/- The contract of the reference's needs of layer 7. Conditions: as many bytes as the slice says, no more than 4000; all numbers there. The contract of the reference's Read of layer 7. Conditions: as many bytes as the slice says, no more than 4000; glyphs from 1 to 65535, words from 0 to 2. -/
namespace Go.Proofs.Ytbicnkopmamnpaa
open Go.RowKit Go.Lib

set_option maxRecDepth 100000 in
set_option maxHeartbeats 1600000 in
theorem needs_any (a : Option Addr) (n c : Nat) (bs : List UInt8) (at_ cnt step : Nat) (za zn zs : Int) (hza : za = (at_ : Nat)) (hzn : zn = (cnt : Nat)) (hzs : zs = (step : Nat)) (w : World) (h : Has w a (bytesV bs)) (hl : bs.length = n) (h20 : n ≤ 4000) (h2 : 2 ≤ step) (h8 : step ≤ 1000000) (hfit : at_ + cnt * step ≤ n) :
    Calls Try.prog 116 #[.slice a n c, .int .i64 za, .int .i64 zn, .int .i64 zs] w fun e w' => e = .returned (.int .i64 (needL (fun i => num bs (at_ + i * step) 2) cnt : Nat)) ∧ w = w' := by
  subst hza hzn hzs
  have HH := Lib.hid h
  have HL := Lib.hid hl
  have hcl : cnt ≤ 4000 := by
    have : cnt * 1 ≤ cnt * step := Nat.mul_le_mul_left _ (by omega)
    omega
  have HF := Lib.hid hfit
  clear h hl hfit
  go_enter Try.func116, Try.ntmps116
  go_wp2_with fail
  go_loopw [9, 10] (fun m i wr => ∃ k : Nat, k ≤ cnt ∧ i = .int .i64 (k : Nat) ∧ m = .int .i64 (needL (fun i => num bs (at_ + i * step) 2) k : Nat) ∧ wr = w) (fun _ i _ => cnt - (Go.RowKit.intOf i).toNat)
  case atStart => exact ⟨0, Nat.zero_le _, rfl, rfl, rfl⟩
  case round =>
    obtain ⟨k, hk, rfl, rfl, rfl⟩ := hrel
    by_cases hlt : k < cnt
    · have hks : k * step + step ≤ cnt * step := by rw [← Nat.succ_mul]; exact Nat.mul_le_mul_right _ (by omega)
      obtain ⟨q, hq⟩ : ∃ q, q = k * step := ⟨_, rfl⟩
      have hqn : at_ + q + 2 ≤ n := by have := HF.out; omega
      have HQ1 := Lib.hid (show IntKind.i64.wrap ((k : Int) * (step : Int)) = (q : Int) by rw [← Int.natCast_mul, ← hq]; exact IntWalk.i64_in _ (by omega))
      have HU := Lib.hid (u2_z a n c (at_ + q) ((at_ : Int) + (q : Int)) (by omega) bs wr HH.out HL.out hqn (by unfold maxLen; omega))
      have HNL := Lib.hid (show needL (fun i => num bs (at_ + i * step) 2) (k + 1) = max (needL (fun i => num bs (at_ + i * step) 2) k) (num bs (at_ + q) 2 + 1) from by rw [needL_succ, hq])
      have hx := num2_lt bs (at_ + q)
      have hm : needL (fun i => num bs (at_ + i * step) 2) k ≤ 65536 := needL_le fun i _ => by have := num2_lt bs (at_ + i * step); omega
      clear hq hks
      generalize num bs (at_ + q) 2 = x at *
      generalize hE : needL (fun i => num bs (at_ + i * step) 2) k = E at *
      clear hE
      have hq1 := HQ1.out
      have hq2 : wrap64 ((k : Int) * (step : Int)) = (q : Int) := by rw [← IntWalk.i64_left]; exact hq1
      go_wp2_with (first | (go_at_call 70; refine (HU.out).mono ?_; rintro e w_ ⟨rfl, rfl⟩))
      clear hq1 hq2
      go_roundw
      case rel =>
        refine ⟨k + 1, hlt, by go_num, ?_, by first | rfl | trivial⟩
        rw [HNL.out]
        congr 1
        split <;> omega
      case measure => simp [Go.RowKit.intOf]; omega
    · obtain rfl : cnt = k := by omega
      go_wp2_with fail
      go_ret
      exact ⟨rfl, rfl⟩

def mrefA (a : Option Addr) (n c C R E S N k : Nat) (aT : Option Addr) (nT cT : Nat) (a' : Option Addr) (L c' : Nat) : Array Value := #[.slice a n c, .int .i64 (C : Nat), .int .i64 (R : Nat), .int .i64 (E : Nat), .int .i64 (S : Nat), .int .i64 (N : Nat), .int .i64 (k : Nat), .slice aT nT cT, .slice a' L c']
def zeroMV : Value := .agg #[.slice none 0 0, .int .i64 0, .int .i64 0, .int .i64 0, .int .i64 0, .int .i64 0, .int .i64 0, .slice none 0 0, .slice none 0 0]
def RefMIs (a : Option Addr) (n c : Nat) (bs : List UInt8) (glyphs k : Nat) (w : World) (e : Ending) (w' : World) : Prop :=
  ((∃ rs S a' c', MOk bs glyphs k rs S ∧ e = .returned (.tuple #[.agg (mrefA a n c (num bs 0 4) (num bs 8 4) (num bs 12 4) S (needE bs S) k (adv a c (num bs 4 4)) (n - num bs 4 4) (c - num bs 4 4) a' rs.length c'), .bool true])) ∨
   ((∀ rs S, ¬ MOk bs glyphs k rs S) ∧ e = .returned (.tuple #[zeroMV, .bool false]))) ∧ Below w.heap.size w w'
def RefMIsN (a : Option Addr) (n c : Nat) (bs : List UInt8) (glyphs k : Nat) (w : World) (e : Ending) (w' : World) : Prop :=
  ((∃ rs S a' c', MOk bs glyphs k rs S ∧ e = .returned (.tuple #[.agg (mrefA a n c (num bs 0 4) (num bs 8 4) (num bs 12 4) S (needE bs S) k (adv a c (num bs 4 4)) (n - num bs 4 4) (c - num bs 4 4) a' rs.length c'), .bool true]) ∧ HasN w.heap.size w' a' (encRs rs)) ∨
   ((∀ rs S, ¬ MOk bs glyphs k rs S) ∧ e = .returned (.tuple #[zeroMV, .bool false]))) ∧ Below w.heap.size w w'
structure RInv (bs : List UInt8) (k s nn : Nat) : Prop where
  two : 2 ≤ s
  le : s ≤ 65536
  ents : nn ≤ needE bs s
  least : ∀ S', MClosed bs k S' → s ≤ S'
def rMeas (g : Nat) (ok : Value) (w : World) : Nat := match ok, w.cell? ⟨g, 4, none⟩, w.cell? ⟨g, 5, none⟩ with
  | .bool true, some (.int _ s), some (.int _ n) => (65537 - s.toNat) + (65537 - n.toNat)
  | _, _, _ => 0
theorem rMeas_false (g : Nat) (w : World) : rMeas g (.bool false) w = 0 := rfl
theorem rMeas_true {g s n : Nat} {w : World} (h4 : w.cell? ⟨g, 4, none⟩ = some (.int .i64 (s : Nat))) (h5 : w.cell? ⟨g, 5, none⟩ = some (.int .i64 (n : Nat))) : rMeas g (.bool true) w = (65537 - s) + (65537 - n) := by
  unfold rMeas
  rw [h4, h5]
  rfl
theorem RInv.next {bs : List UInt8} {k s nn : Nat} (h : RInv bs k s nn) : RInv bs k (max s (needS bs k (needE bs s))) (needE bs s) := by
  have h2 := h.two
  have h9 := needS_le bs k (needE bs s)
  have hle := h.le
  refine ⟨by omega, by omega, needE_mono bs (Nat.le_max_left _ _), fun S' hS => ?_⟩
  have h3 := h.least S' hS
  have h4 := needS_mono bs k (needE_mono bs h3)
  have h5 := hS.2
  omega
theorem RInv.done {bs : List UInt8} {k s nn : Nat} (h : RInv bs k s nn) (h1 : max s (needS bs k (needE bs s)) = s) (_h2 : needE bs s = nn) : MLeast bs k s :=
  ⟨⟨h.two, by omega⟩, h.least⟩
theorem entL (bs : List UInt8) : (fun i => num bs (num bs 8 4 + i * 2) 2) = entN bs := by
  funext i
  unfold entN
  rw [Nat.mul_comm]
theorem nextL (bs : List UInt8) (k : Nat) : (fun i => num bs (num bs 12 4 + i * (4 + 2 * k)) 2) = nextN bs k := rfl
theorem HasN.below {B : Nat} {w w' : World} {a : Option Addr} {xs : List Value} (h : HasN B w a xs) (hb : Below w.heap.size w w') : HasN B w' a xs := ⟨h.1.below hb, fun hx p hp => by obtain ⟨h1, cs, fz, h2⟩ := h.2 hx p hp; exact ⟨h1, cs, fz, (hb.block _ (Array.getElem?_eq_some_iff.1 h2).1).trans h2⟩⟩
theorem HasN.mono {B B' : Nat} {w : World} {a : Option Addr} {xs : List Value} (h : HasN B w a xs) (hb : B' ≤ B) : HasN B' w a xs := ⟨h.1, fun hx p hp => ⟨Nat.le_trans hb (h.2 hx p hp).1, (h.2 hx p hp).2⟩⟩
theorem HasN.set {B : Nat} {w : World} {a : Option Addr} {xs : List Value} (h : HasN B w a xs) {g o : Nat} (hg : g < B) (v : Value) : HasN B (w.setCell ⟨g, o, none⟩ v) a xs := ⟨has_set h.1 (fun hx p hp hb => by have := (h.2 hx p hp).1; omega) v, fun hx p hp => by obtain ⟨h1, cs, fz, h2⟩ := h.2 hx p hp; exact ⟨h1, cs, fz, (set_heap_other _ (by omega)).trans h2⟩⟩
theorem HasN.drew {B : Nat} {w : World} {a : Option Addr} {xs : List Value} (h : HasN B w a xs) : HasN B w.drew a xs := h.below (bdrew1 (brefl _))
def MRel (w : World) (bs : List UInt8) (glyphs k : Nat) (a : Option Addr) (n c C P8 P12 : Nat) (aT : Option Addr) (nT cT : Nat) (a' : Option Addr) (L c' : Nat) (rs0 : List RP) (ok : Value) (wr : World) : Prop :=
  Below w.heap.size w wr ∧ wr.heap[w.heap.size]? = some (.cells #[.slice none 0 0, .int .i64 0, .int .i64 0, .int .i64 0, .int .i64 0, .int .i64 0, .int .i64 0, .slice none 0 0, .slice none 0 0] 44 (0, 0)) ∧
  ((∃ s nn, ok = .bool true ∧ RInv bs k s nn ∧ wr.heap[w.heap.size + 1]? = some (.cells (mrefA a n c C P8 P12 s nn k aT nT cT a' L c') 44 (0, 0)) ∧ HasN (w.heap.size + 2) wr a' (encRs rs0)) ∨ (ok = .bool false ∧ ∀ rs S, ¬ MOk bs glyphs k rs S))
theorem fitK_iff {n P s z : Nat} (hP : P ≤ n) (hz : 0 < z) : fitK n 2 (P : Int) (s : Int) (z : Int) ↔ s * z ≤ n - P := by
  simp only [fitK, Int.toNat_natCast]
  rw [← Nat.le_div_iff_mul_le hz]
  constructor
  · rintro ⟨_, _, _, _, h | h⟩
    · omega
    · exact h
  · intro h
    exact ⟨by omega, by omega, by omega, by omega, .inr h⟩
theorem rows_yes (n P s zN : Nat) (z : Int) (hz : z = (zN : Nat)) (w : World) (hn : n ≤ maxLen) (hP : P ≤ n) (h0 : 0 < zN) (h9 : zN ≤ 1000000) (hs : s ≤ 65536) (hf : s * zN ≤ n - P) :
    Calls Try.prog 97 #[.int .i64 (n : Nat), .int .i64 (P : Nat), .int .i64 (s : Nat), .int .i64 z] w fun e w' => e = .returned (.bool true) ∧ w = w' := by
  subst hz
  unfold maxLen at hn
  exact rref_any n P s zN true ⟨fun _ => (fitK_iff hP h0).2 hf, fun _ => rfl⟩ w (by unfold maxLen; omega) (by omega) (by omega) (by omega)
theorem rows_no (n P s zN : Nat) (z : Int) (hz : z = (zN : Nat)) (w : World) (hn : n ≤ maxLen) (hP : P ≤ n) (h0 : 0 < zN) (h9 : zN ≤ 1000000) (hs : s ≤ 65536) (hf : ¬ s * zN ≤ n - P) :
    Calls Try.prog 97 #[.int .i64 (n : Nat), .int .i64 (P : Nat), .int .i64 (s : Nat), .int .i64 z] w fun e w' => e = .returned (.bool false) ∧ w = w' := by
  subst hz
  unfold maxLen at hn
  exact rref_any n P s zN false ⟨fun h => (by cases h), fun h => absurd ((fitK_iff hP h0).1 h) hf⟩ w (by unfold maxLen; omega) (by omega) (by omega) (by omega)
theorem u4_any (a : Option Addr) (n c : Nat) (bs : List UInt8) (j : Nat) (z : Int) (hz : z = (j : Nat)) (h100 : j ≤ 100) (w : World) (h : Has w a (bytesV bs)) (hl : bs.length = n) (hn : n ≤ maxLen) :
    ∃ q : Int, -1 ≤ q ∧ q ≤ 4294967295 ∧ (j + 4 ≤ n → q = num bs j 4) ∧ (¬ j + 4 ≤ n → q = -1) ∧ ∀ W, Below w.heap.size w W → Calls Try.prog 70 #[.slice a n c, .int .i64 z, .int .i64 4] W fun e w' => e = .returned (.int .i64 q) ∧ W = w' := by
  subst hz
  by_cases hin : j + 4 ≤ n
  · have := num4_lt bs j
    exact ⟨num bs j 4, by omega, by omega, fun _ => rfl, fun h => absurd hin h, fun W hW => u_in a n c j 4 bs W (h.below hW) hl hin (by omega) hn⟩
  · exact ⟨-1, by omega, by omega, fun h => absurd h hin, fun _ => rfl, fun W hW => u_out a n c 4 (j : Int) W (by omega) (by omega) (by omega) hn⟩
set_option maxRecDepth 100000 in
set_option maxHeartbeats 6400000 in
theorem refM_new (a : Option Addr) (n c : Nat) (bs : List UInt8) (glyphs k : Nat) (zg zk : Int) (hzg : zg = (glyphs : Nat)) (hzk : zk = (k : Nat)) (w : World) (h : Has w a (bytesV bs)) (hl : bs.length = n) (hn : n ≤ c) (hc : c ≤ maxLen) (h20 : n ≤ 4000) (hg1 : 1 ≤ glyphs) (hg2 : glyphs ≤ 65535) (hk : k ≤ 2) :
    Calls Try.prog 68 #[.slice a n c, .int .i64 zg, .int .i64 zk] w (RefMIsN a n c bs glyphs k w) := by
  have hAC := allocC
  have hAF := allocF
  subst hzg hzk
  have hnm : n ≤ maxLen := Nat.le_trans hn hc
  obtain ⟨q0, a0, b0, i0, o0, hu0⟩ := u4_any a n c bs 0 0 rfl (by omega) w h hl hnm
  obtain ⟨q4, a4, b4, i4, o4, hu4⟩ := u4_any a n c bs 4 4 rfl (by omega) w h hl hnm
  obtain ⟨q8, a8, b8, i8, o8, hu8⟩ := u4_any a n c bs 8 8 rfl (by omega) w h hl hnm
  obtain ⟨q12, a12, b12, i12, o12, hu12⟩ := u4_any a n c bs 12 12 rfl (by omega) w h hl hnm
  have HU0 := Lib.hid hu0
  have HU4 := Lib.hid hu4
  have HU8 := Lib.hid hu8
  have HU12 := Lib.hid hu12
  have HQ := Lib.hid (show ∀ rs S, MOk bs glyphs k rs S → (4 ≤ q0 ∧ q0 ≤ 65535) ∧ 0 ≤ q8 ∧ 0 ≤ q12 ∧ q8 ≤ n ∧ q12 ≤ n ∧ 0 ≤ q4 ∧ q4 ≤ n from fun rs S ho => by
    have h1 := ho.len
    have h2 := ho.cls
    have h3 := ho.at_
    have h4 := ho.rows
    have h5 := ho.ents
    rw [hl] at h1 h3 h4 h5
    have e0 := i0 (by omega)
    have e4 := i4 (by omega)
    have e8 := i8 (by omega)
    have e12 := i12 (by omega)
    omega)
  have HI0 := Lib.hid i0
  have HI4 := Lib.hid i4
  have HI8 := Lib.hid i8
  have HI12 := Lib.hid i12
  have HO12 := Lib.hid o12
  have HH := Lib.hid h
  have HL := Lib.hid hl
  clear h hl hu0 hu4 hu8 hu12 i0 i4 i8 i12 o0 o4 o8 o12
  by_cases hb0 : q0 < 4
  · have HNO := Lib.hid (show ∀ rs S, ¬ MOk bs glyphs k rs S from fun rs S ho => by have := HQ.out rs S ho; omega)
    have d0 : decide (q0 < 4) = true := by simpa using hb0
    clear hb0
    go_enter Try.func68, Try.ntmps68
    go_wp2_with (first | (go_at_call 70; (with_reducible refine (HU0.out _ (by exact blw)).mono ?_); rintro e wu ⟨rfl, rfl⟩) | (go_at_call 70; (with_reducible refine (HU8.out _ (by exact blw)).mono ?_); rintro e wu ⟨rfl, rfl⟩) | (go_at_call 70; (with_reducible refine (HU12.out _ (by exact blw)).mono ?_); rintro e wu ⟨rfl, rfl⟩) | (go_at_call 70; (with_reducible refine (HU4.out _ (by exact blw)).mono ?_); rintro e wu ⟨rfl, rfl⟩))
    refine bodyPost_ret (v := .tuple #[zeroMV, .bool false]) (by simp [results, Try.results68, go_sem, hAC, hAF, zeroMV]) rfl ?_
    exact ⟨.inr ⟨HNO.out, rfl⟩, blw⟩
  have d0 : decide (q0 < 4) = false := by simpa using hb0
  by_cases hb1 : 65535 < q0
  · have HNO := Lib.hid (show ∀ rs S, ¬ MOk bs glyphs k rs S from fun rs S ho => by have := HQ.out rs S ho; omega)
    have d1 : decide ((65535 : Int) < q0) = true := by simpa using hb1
    clear hb1
    go_enter Try.func68, Try.ntmps68
    go_wp2_with (first | (go_at_call 70; (with_reducible refine (HU0.out _ (by exact blw)).mono ?_); rintro e wu ⟨rfl, rfl⟩) | (go_at_call 70; (with_reducible refine (HU8.out _ (by exact blw)).mono ?_); rintro e wu ⟨rfl, rfl⟩) | (go_at_call 70; (with_reducible refine (HU12.out _ (by exact blw)).mono ?_); rintro e wu ⟨rfl, rfl⟩) | (go_at_call 70; (with_reducible refine (HU4.out _ (by exact blw)).mono ?_); rintro e wu ⟨rfl, rfl⟩))
    refine bodyPost_ret (v := .tuple #[zeroMV, .bool false]) (by simp [results, Try.results68, go_sem, hAC, hAF, zeroMV]) rfl ?_
    exact ⟨.inr ⟨HNO.out, rfl⟩, blw⟩
  have d1 : decide ((65535 : Int) < q0) = false := by simpa using hb1
  by_cases hb2 : q8 < 0
  · have HNO := Lib.hid (show ∀ rs S, ¬ MOk bs glyphs k rs S from fun rs S ho => by have := HQ.out rs S ho; omega)
    have d2 : decide (q8 < 0) = true := by simpa using hb2
    clear hb2
    go_enter Try.func68, Try.ntmps68
    go_wp2_with (first | (go_at_call 70; (with_reducible refine (HU0.out _ (by exact blw)).mono ?_); rintro e wu ⟨rfl, rfl⟩) | (go_at_call 70; (with_reducible refine (HU8.out _ (by exact blw)).mono ?_); rintro e wu ⟨rfl, rfl⟩) | (go_at_call 70; (with_reducible refine (HU12.out _ (by exact blw)).mono ?_); rintro e wu ⟨rfl, rfl⟩) | (go_at_call 70; (with_reducible refine (HU4.out _ (by exact blw)).mono ?_); rintro e wu ⟨rfl, rfl⟩))
    refine bodyPost_ret (v := .tuple #[zeroMV, .bool false]) (by simp [results, Try.results68, go_sem, hAC, hAF, zeroMV]) rfl ?_
    exact ⟨.inr ⟨HNO.out, rfl⟩, blw⟩
  have d2 : decide (q8 < 0) = false := by simpa using hb2
  by_cases hb3 : q12 < 0
  · have HNO := Lib.hid (show ∀ rs S, ¬ MOk bs glyphs k rs S from fun rs S ho => by have := HQ.out rs S ho; omega)
    have d3 : decide (q12 < 0) = true := by simpa using hb3
    clear hb3
    go_enter Try.func68, Try.ntmps68
    go_wp2_with (first | (go_at_call 70; (with_reducible refine (HU0.out _ (by exact blw)).mono ?_); rintro e wu ⟨rfl, rfl⟩) | (go_at_call 70; (with_reducible refine (HU8.out _ (by exact blw)).mono ?_); rintro e wu ⟨rfl, rfl⟩) | (go_at_call 70; (with_reducible refine (HU12.out _ (by exact blw)).mono ?_); rintro e wu ⟨rfl, rfl⟩) | (go_at_call 70; (with_reducible refine (HU4.out _ (by exact blw)).mono ?_); rintro e wu ⟨rfl, rfl⟩))
    refine bodyPost_ret (v := .tuple #[zeroMV, .bool false]) (by simp [results, Try.results68, go_sem, hAC, hAF, zeroMV]) rfl ?_
    exact ⟨.inr ⟨HNO.out, rfl⟩, blw⟩
  have d3 : decide (q12 < 0) = false := by simpa using hb3
  by_cases hb4 : (n : Int) < q8
  · have HNO := Lib.hid (show ∀ rs S, ¬ MOk bs glyphs k rs S from fun rs S ho => by have := HQ.out rs S ho; omega)
    have d4 : decide ((n : Int) < q8) = true := by simpa using hb4
    clear hb4
    go_enter Try.func68, Try.ntmps68
    go_wp2_with (first | (go_at_call 70; (with_reducible refine (HU0.out _ (by exact blw)).mono ?_); rintro e wu ⟨rfl, rfl⟩) | (go_at_call 70; (with_reducible refine (HU8.out _ (by exact blw)).mono ?_); rintro e wu ⟨rfl, rfl⟩) | (go_at_call 70; (with_reducible refine (HU12.out _ (by exact blw)).mono ?_); rintro e wu ⟨rfl, rfl⟩) | (go_at_call 70; (with_reducible refine (HU4.out _ (by exact blw)).mono ?_); rintro e wu ⟨rfl, rfl⟩))
    refine bodyPost_ret (v := .tuple #[zeroMV, .bool false]) (by simp [results, Try.results68, go_sem, hAC, hAF, zeroMV]) rfl ?_
    exact ⟨.inr ⟨HNO.out, rfl⟩, blw⟩
  have d4 : decide ((n : Int) < q8) = false := by simpa using hb4
  by_cases hb5 : (n : Int) < q12
  · have HNO := Lib.hid (show ∀ rs S, ¬ MOk bs glyphs k rs S from fun rs S ho => by have := HQ.out rs S ho; omega)
    have d5 : decide ((n : Int) < q12) = true := by simpa using hb5
    clear hb5
    go_enter Try.func68, Try.ntmps68
    go_wp2_with (first | (go_at_call 70; (with_reducible refine (HU0.out _ (by exact blw)).mono ?_); rintro e wu ⟨rfl, rfl⟩) | (go_at_call 70; (with_reducible refine (HU8.out _ (by exact blw)).mono ?_); rintro e wu ⟨rfl, rfl⟩) | (go_at_call 70; (with_reducible refine (HU12.out _ (by exact blw)).mono ?_); rintro e wu ⟨rfl, rfl⟩) | (go_at_call 70; (with_reducible refine (HU4.out _ (by exact blw)).mono ?_); rintro e wu ⟨rfl, rfl⟩))
    refine bodyPost_ret (v := .tuple #[zeroMV, .bool false]) (by simp [results, Try.results68, go_sem, hAC, hAF, zeroMV]) rfl ?_
    exact ⟨.inr ⟨HNO.out, rfl⟩, blw⟩
  have d5 : decide ((n : Int) < q12) = false := by simpa using hb5
  by_cases hb6 : q4 < 0
  · have HNO := Lib.hid (show ∀ rs S, ¬ MOk bs glyphs k rs S from fun rs S ho => by have := HQ.out rs S ho; omega)
    have d6 : decide (q4 < 0) = true := by simpa using hb6
    clear hb6
    go_enter Try.func68, Try.ntmps68
    go_wp2_with (first | (go_at_call 70; (with_reducible refine (HU0.out _ (by exact blw)).mono ?_); rintro e wu ⟨rfl, rfl⟩) | (go_at_call 70; (with_reducible refine (HU8.out _ (by exact blw)).mono ?_); rintro e wu ⟨rfl, rfl⟩) | (go_at_call 70; (with_reducible refine (HU12.out _ (by exact blw)).mono ?_); rintro e wu ⟨rfl, rfl⟩) | (go_at_call 70; (with_reducible refine (HU4.out _ (by exact blw)).mono ?_); rintro e wu ⟨rfl, rfl⟩))
    refine bodyPost_ret (v := .tuple #[zeroMV, .bool false]) (by simp [results, Try.results68, go_sem, hAC, hAF, zeroMV]) rfl ?_
    exact ⟨.inr ⟨HNO.out, rfl⟩, blw⟩
  have d6 : decide (q4 < 0) = false := by simpa using hb6
  by_cases hb7 : (n : Int) < q4
  · have HNO := Lib.hid (show ∀ rs S, ¬ MOk bs glyphs k rs S from fun rs S ho => by have := HQ.out rs S ho; omega)
    have d7 : decide ((n : Int) < q4) = true := by simpa using hb7
    clear hb7
    go_enter Try.func68, Try.ntmps68
    go_wp2_with (first | (go_at_call 70; (with_reducible refine (HU0.out _ (by exact blw)).mono ?_); rintro e wu ⟨rfl, rfl⟩) | (go_at_call 70; (with_reducible refine (HU8.out _ (by exact blw)).mono ?_); rintro e wu ⟨rfl, rfl⟩) | (go_at_call 70; (with_reducible refine (HU12.out _ (by exact blw)).mono ?_); rintro e wu ⟨rfl, rfl⟩) | (go_at_call 70; (with_reducible refine (HU4.out _ (by exact blw)).mono ?_); rintro e wu ⟨rfl, rfl⟩))
    refine bodyPost_ret (v := .tuple #[zeroMV, .bool false]) (by simp [results, Try.results68, go_sem, hAC, hAF, zeroMV]) rfl ?_
    exact ⟨.inr ⟨HNO.out, rfl⟩, blw⟩
  have d7 : decide ((n : Int) < q4) = false := by simpa using hb7
  have h16 : 16 ≤ n := by
    rcases Nat.lt_or_ge n 16 with g | g
    · have := HO12.out (by omega); omega
    · exact g
  obtain ⟨C, rfl⟩ : ∃ C : Nat, q0 = C := ⟨q0.toNat, by omega⟩
  obtain ⟨P4, rfl⟩ : ∃ C : Nat, q4 = C := ⟨q4.toNat, by omega⟩
  obtain ⟨P8, rfl⟩ : ∃ C : Nat, q8 = C := ⟨q8.toNat, by omega⟩
  obtain ⟨P12, rfl⟩ : ∃ C : Nat, q12 = C := ⟨q12.toNat, by omega⟩
  have HC := Lib.hid (show C = num bs 0 4 from by have := HI0.out (by omega); omega)
  have HP4 := Lib.hid (show P4 = num bs 4 4 from by have := HI4.out (by omega); omega)
  have HP8 := Lib.hid (show P8 = num bs 8 4 from by have := HI8.out (by omega); omega)
  have HP12 := Lib.hid (show P12 = num bs 12 4 from by have := HI12.out (by omega); omega)
  have hC4 : 4 ≤ C ∧ C ≤ 65535 := by omega
  have hPn : P4 ≤ n ∧ P8 ≤ n ∧ P12 ≤ n := by omega
  clear hb0 hb1 hb2 hb3 hb4 hb5 hb6 hb7 a0 a4 a8 a12 b0 b4 b8 b12 HI0 HI4 HI8 HI12 HO12 HQ
  have d2 : decide ((P8 : Int) < 0) = false := by simp
  have d3 : decide ((P12 : Int) < 0) = false := by simp
  have d6 : decide ((P4 : Int) < 0) = false := by simp
  have hadvL : (bs.drop P4).length = n - P4 := by rw [List.length_drop, HL.out]
  by_cases hcp : c = P4
  · have hn4 : n - P4 = 0 := by omega
    have hnil : bs.drop P4 = [] := List.eq_nil_of_length_eq_zero (by omega)
    have hno : ∀ rs, ¬ LkOk (bs.drop P4) glyphs 2 rs := fun rs ho => by rw [hnil] at ho; cases ho.rows <;> simp at * 
    have HNO := Lib.hid (show ∀ rs S, ¬ MOk bs glyphs k rs S from fun rs S ho => hno rs (by have := ho.lk; rw [← HP4.out] at this; exact this))
    have HRD := Lib.hid (fun W => (refRead_any a 0 0 [] glyphs 2 (glyphs : Int) 2 rfl rfl hg1 hg2 (.inl rfl) W (Has.nil _ _) rfl (Nat.le_refl _) (Nat.zero_le _) (by omega)).mono (R' := fun e w' => e = .returned (.tuple #[.agg #[.slice none 0 0, .slice none 0 0], .bool false]) ∧ Below W.heap.size W w') (by rintro e w' ⟨(⟨rs, _, _, ho, _⟩ | ⟨_, he⟩), hb⟩; exact absurd (hnil ▸ ho) (hno rs); exact ⟨he, hb⟩))
    clear hno hnil
    subst hcp
    go_enter Try.func68, Try.ntmps68
    go_wp2_with (first | (go_at_call 70; (with_reducible refine (HU0.out _ (by exact blw)).mono ?_); rintro e wu ⟨rfl, rfl⟩) | (go_at_call 70; (with_reducible refine (HU8.out _ (by exact blw)).mono ?_); rintro e wu ⟨rfl, rfl⟩) | (go_at_call 70; (with_reducible refine (HU12.out _ (by exact blw)).mono ?_); rintro e wu ⟨rfl, rfl⟩) | (go_at_call 70; (with_reducible refine (HU4.out _ (by exact blw)).mono ?_); rintro e wu ⟨rfl, rfl⟩) | (go_at_call 98; (with_reducible refine (HRD.out _).mono ?_); rintro e w5 ⟨rfl, hb5⟩; have h5c := bc hb5; have h5f := bf hb5; have h5z := hb5.size; try simp only [World.size_alloc, World.size_drew] at h5z))
    go_loopw [11] (fun ok wr => ok = .bool false ∧ Below w.heap.size w wr ∧ wr.heap[w.heap.size]? = some (.cells #[.slice none 0 0, .int .i64 0, .int .i64 0, .int .i64 0, .int .i64 0, .int .i64 0, .int .i64 0, .slice none 0 0, .slice none 0 0] 44 (0, 0))) (fun _ _ => 0)
    case atStart =>
      refine ⟨rfl, blw, ?_⟩
      refine (set_heap_other _ (by omega)).trans ((set_heap_other _ (by omega)).trans ?_)
      rw [heap_push, if_neg (by omega)]
      exact (hb5.block _ (by simp; omega)).trans (by rw [heap_push, if_neg (by simp), heap_push, if_pos rfl])
    case round =>
      obtain ⟨rfl, hbr, h6⟩ := hrel
      have q6 := fun o => cell_of_heap h6 o
      have f6 := fun o => froz_of_heap h6 o
      have l6 := (Array.getElem?_eq_some_iff.1 h6).1
      have HBR := Lib.hid hbr
      clear hbr h6
      go_wp2_with fail
      refine bodyPost_ret (v := .tuple #[zeroMV, .bool false]) (by simp [results, Try.results68, go_sem, q6, f6, l6, zeroMV]) rfl ?_
      have hbr := HBR.out
      exact ⟨.inr ⟨HNO.out, rfl⟩, blw⟩
  have hAd : adv a c P4 = a.map (fun x => x.add P4) := by unfold adv; rw [if_neg hcp]
  have hAH := HH.out.adv c P4 (by rw [bytesV_length, HL.out]; exact hn)
  rw [bytesV_drop, hAd] at hAH
  have HAH := Lib.hid hAH
  by_cases hlk : ∃ rs, LkOk (bs.drop P4) glyphs 2 rs
  case neg =>
    have HNO := Lib.hid (show ∀ rs S, ¬ MOk bs glyphs k rs S from fun rs S ho => hlk ⟨rs, by have := ho.lk; rw [← HP4.out] at this; exact this⟩)
    have HRD := Lib.hid (fun W (hW : Below w.heap.size w W) => (refRead_any (a.map (fun x => x.add P4)) (n - P4) (c - P4) (bs.drop P4) glyphs 2 (glyphs : Int) 2 rfl rfl hg1 hg2 (.inl rfl) W (HAH.out.below hW) hadvL (by omega) (Nat.le_trans (Nat.sub_le _ _) hc) (by omega)).mono (R' := fun e w' => e = .returned (.tuple #[.agg #[.slice none 0 0, .slice none 0 0], .bool false]) ∧ Below W.heap.size W w') (by rintro e w' ⟨(⟨rs, _, _, ho, _⟩ | ⟨_, he⟩), hb⟩; exact absurd ⟨rs, ho⟩ hlk; exact ⟨he, hb⟩))
    clear hlk hAd hAH
    go_enter Try.func68, Try.ntmps68
    go_wp2_with (first | (go_at_call 70; (with_reducible refine (HU0.out _ (by exact blw)).mono ?_); rintro e wu ⟨rfl, rfl⟩) | (go_at_call 70; (with_reducible refine (HU8.out _ (by exact blw)).mono ?_); rintro e wu ⟨rfl, rfl⟩) | (go_at_call 70; (with_reducible refine (HU12.out _ (by exact blw)).mono ?_); rintro e wu ⟨rfl, rfl⟩) | (go_at_call 70; (with_reducible refine (HU4.out _ (by exact blw)).mono ?_); rintro e wu ⟨rfl, rfl⟩) | (go_at_call 98; (with_reducible refine (HRD.out _ (by exact blw)).mono ?_); rintro e w5 ⟨rfl, hb5⟩; have h5c := bc hb5; have h5f := bf hb5; have h5z := hb5.size; try simp only [World.size_alloc, World.size_drew] at h5z))
    go_loopw [11] (fun ok wr => ok = .bool false ∧ Below w.heap.size w wr ∧ wr.heap[w.heap.size]? = some (.cells #[.slice none 0 0, .int .i64 0, .int .i64 0, .int .i64 0, .int .i64 0, .int .i64 0, .int .i64 0, .slice none 0 0, .slice none 0 0] 44 (0, 0))) (fun _ _ => 0)
    case atStart =>
      refine ⟨rfl, blw, ?_⟩
      refine (set_heap_other _ (by omega)).trans ((set_heap_other _ (by omega)).trans ?_)
      rw [heap_push, if_neg (by omega)]
      exact (hb5.block _ (by simp; omega)).trans (by rw [heap_push, if_neg (by simp), heap_push, if_pos rfl])
    case round =>
      obtain ⟨rfl, hbr, h6⟩ := hrel
      have q6 := fun o => cell_of_heap h6 o
      have f6 := fun o => froz_of_heap h6 o
      have l6 := (Array.getElem?_eq_some_iff.1 h6).1
      have HBR := Lib.hid hbr
      clear hbr h6
      go_wp2_with fail
      refine bodyPost_ret (v := .tuple #[zeroMV, .bool false]) (by simp [results, Try.results68, go_sem, q6, f6, l6, zeroMV]) rfl ?_
      have hbr := HBR.out
      exact ⟨.inr ⟨HNO.out, rfl⟩, blw⟩
  obtain ⟨rs, hlk⟩ := hlk
  have HLK := Lib.hid hlk
  have HRD := Lib.hid (fun W (hW : Below w.heap.size w W) => (refRead_new (a.map (fun x => x.add P4)) (n - P4) (c - P4) (bs.drop P4) glyphs 2 (glyphs : Int) 2 rfl rfl hg1 hg2 (.inl rfl) W (HAH.out.below hW) hadvL (by omega) (Nat.le_trans (Nat.sub_le _ _) hc) (by omega)).mono (R' := fun e w' => (∃ (a' : Option Addr) (c' : Nat), e = .returned (.tuple #[.agg #[.slice (a.map (fun x => x.add P4)) (n - P4) (c - P4), .slice a' rs.length c'], .bool true]) ∧ HasN W.heap.size w' a' (encRs rs)) ∧ Below W.heap.size W w') (by
    rintro e w' ⟨(⟨rs', a', c', ho, he, hnw, _⟩ | ⟨hno, _⟩), hb⟩
    · obtain rfl := hlk.det ho
      exact ⟨⟨a', c', he, hnw⟩, hb⟩
    · exact absurd hlk (hno rs)))
  have HAD := Lib.hid hAd
  clear hlk hAd hAH
  go_enter Try.func68, Try.ntmps68
  go_wp2_with (first | (go_at_call 70; (with_reducible refine (HU0.out _ (by exact blw)).mono ?_); rintro e wu ⟨rfl, rfl⟩) | (go_at_call 70; (with_reducible refine (HU8.out _ (by exact blw)).mono ?_); rintro e wu ⟨rfl, rfl⟩) | (go_at_call 70; (with_reducible refine (HU12.out _ (by exact blw)).mono ?_); rintro e wu ⟨rfl, rfl⟩) | (go_at_call 70; (with_reducible refine (HU4.out _ (by exact blw)).mono ?_); rintro e wu ⟨rfl, rfl⟩) | (go_at_call 98; (with_reducible refine (HRD.out _ (by exact blw)).mono ?_); rintro e w5 ⟨⟨a', c', rfl, hn5⟩, hb5⟩; have HN5 := Lib.hid hn5; clear hn5; have h5c := bc hb5; have h5f := bf hb5; have h5z := hb5.size; try simp only [World.size_alloc] at h5z))
  have hA4 := HAD.out.symm
  rw [hA4]
  obtain ⟨W, hW⟩ : ∃ W, W = (((w5.alloc (Obj.cells #[.slice (adv a c P4) (n - P4) (c - P4), .slice a' rs.length c'] 42)).setCell ⟨w.heap.size + 1, 7, none⟩ (.slice (adv a c P4) (n - P4) (c - P4))).setCell ⟨w.heap.size + 1, 8, none⟩ (.slice a' rs.length c')) := ⟨_, rfl⟩
  have hb : Below w.heap.size w W := by rw [hW]; exact blw
  have z6 : W.heap[w.heap.size]? = some (.cells #[.slice none 0 0, .int .i64 0, .int .i64 0, .int .i64 0, .int .i64 0, .int .i64 0, .int .i64 0, .slice none 0 0, .slice none 0 0] 44 (0, 0)) := by
    rw [hW]
    refine (set_heap_other _ (by omega)).trans ((set_heap_other _ (by omega)).trans ?_)
    rw [heap_push, if_neg (by omega)]
    exact (hb5.block _ (by simp; omega)).trans (by rw [heap_push, if_neg (by simp), heap_push, if_pos rfl])
  have z8 : W.heap[w.heap.size + 1]? = some (.cells (mrefA a n c C P8 P12 2 0 k (adv a c P4) (n - P4) (c - P4) a' rs.length c') 44 (0, 0)) := by
    rw [hW]
    have hw5 : (w5.alloc (Obj.cells #[.slice (adv a c P4) (n - P4) (c - P4), .slice a' rs.length c'] 42)).heap[w.heap.size + 1]? = some (Obj.cells #[.slice a n c, .int .i64 (C : Nat), .int .i64 (P8 : Nat), .int .i64 (P12 : Nat), .int .i64 2, .int .i64 0, .int .i64 (k : Nat), .slice none 0 0, .slice none 0 0] 44 (0, 0)) := by
      rw [heap_push, if_neg (by omega)]
      exact (hb5.block _ (by simp)).trans (by rw [heap_push, if_pos (by simp)])
    exact set_heap_at _ (set_heap_at _ hw5)
  have HK0 := Lib.hid (show HasN (w.heap.size + 2) W a' (encRs rs) from by rw [hW]; exact (((HN5.out.mono (by simp)).below (balloc (brefl _) _)).set (Nat.lt_succ_self _) _).set (Nat.lt_succ_self _) _)
  have HB := Lib.hid hb
  have Z6 := Lib.hid z6
  have Z8 := Lib.hid z8
  have hzW : w.heap.size + 1 < W.heap.size := (Array.getElem?_eq_some_iff.1 z8).1
  rw [← hW]
  clear hW hb z6 z8 h5c h5f hb5 hA4 HRD HAH HU0 HU4 HU8 HU12
  generalize hA5 : adv a c P4 = A4 at *
  have HA5 := Lib.hid hA5
  clear hA5
  have hsz : (4 : Int) + 2 * (k : Int) = ((4 + 2 * k : Nat) : Int) := by omega
  rw [hsz]
  obtain ⟨sz, hszz⟩ : ∃ sz, sz = 4 + 2 * k := ⟨_, rfl⟩
  rw [← hszz]
  have HSZ := Lib.hid hszz
  have hsz8 : 4 ≤ sz ∧ sz ≤ 8 := by omega
  clear hsz hszz
  go_loopw [11] (MRel w bs glyphs k a n c C P8 P12 A4 (n - P4) (c - P4) a' rs.length c' rs) (fun ok wr => rMeas (w.heap.size + 1) ok wr)
  case atStart => exact ⟨HB.out, Z6.out, .inl ⟨2, 0, rfl, ⟨Nat.le_refl _, by omega, Nat.zero_le _, fun S' hS => hS.1⟩, Z8.out, HK0.out⟩⟩
  case round =>
    obtain ⟨hbr, h6, (⟨s, nn, rfl, hi, h8, hk⟩ | ⟨rfl, hno⟩)⟩ := hrel
    case inr =>
      have HNO := Lib.hid hno
      have q6 := fun o => cell_of_heap h6 o
      have f6 := fun o => froz_of_heap h6 o
      have l6 := (Array.getElem?_eq_some_iff.1 h6).1
      have HBR := Lib.hid hbr
      clear hbr h6 hno
      go_wp2_with fail
      refine bodyPost_ret (v := .tuple #[zeroMV, .bool false]) (by simp [results, Try.results68, go_sem, q6, f6, l6, zeroMV]) rfl ?_
      have hbr := HBR.out
      exact ⟨.inr ⟨HNO.out, rfl⟩, blw⟩
    have HK := Lib.hid hk
    clear hk
    have q8 := fun o => cell_of_heap h8 o
    simp only [mrefA] at q8
    have f8 := fun o => froz_of_heap h8 o
    have l8 := (Array.getElem?_eq_some_iff.1 h8).1
    have HBR := Lib.hid hbr
    have H6 := Lib.hid h6
    have H8 := Lib.hid h8
    have HI := Lib.hid hi
    have hs2 := hi.two
    have hs6 := hi.le
    have hnE := hi.ents
    have hE6 := needE_le bs s
    have HHW := Lib.hid (fun W (hW : Below w.heap.size w W) => HH.out.below hW)
    have hmz := Lib.hid (rMeas_true (g := w.heap.size + 1) (w := wr) (cell_of_heap h8 4) (cell_of_heap h8 5))
    clear hbr h6 h8 hi
    by_cases hf1 : s * (2 * C) ≤ n - P8
    case neg =>
      have HNO := Lib.hid (show ∀ rs S, ¬ MOk bs glyphs k rs S from fun rs S ho => hf1 (by
        have h1 := ho.fitS
        rw [← HC.out, ← HP8.out, HL.out] at h1
        exact Nat.le_trans (Nat.mul_le_mul_right _ (HI.out.least S ho.least.closed)) h1))
      have HR1 := Lib.hid (fun (z : Int) (hz : z = ((2 * C : Nat) : Int)) W => rows_no n P8 s (2 * C) z hz W hnm hPn.2.1 (by omega) (by omega) hs6 hf1)
      clear hf1
      go_wp2_with (first | (go_at_call 97; (with_reducible refine (HR1.out _ (by first | rfl | omega | exact IntWalk.i64_in _ (by omega)) _).mono ?_); rintro e wu ⟨rfl, rfl⟩))
      go_roundw
      case rel =>
        refine ⟨?_, ?_, .inr ⟨rfl, HNO.out⟩⟩
        · have hbr := HBR.out; exact blw
        · rw [heap_push, if_neg (by omega)]; exact H6.out
      case measure =>
        rw [hmz.out, rMeas_false]
        omega
    have HF1 := Lib.hid hf1
    have HR1 := Lib.hid (fun (z : Int) (hz : z = ((2 * C : Nat) : Int)) W => rows_yes n P8 s (2 * C) z hz W hnm hPn.2.1 (by omega) (by omega) hs6 hf1)
    obtain ⟨q, hq⟩ : ∃ q, q = s * C := ⟨_, rfl⟩
    have hq2 : P8 + q * 2 ≤ n := by
      have e : s * (2 * C) = q * 2 := by rw [hq, Nat.mul_left_comm, Nat.mul_comm]
      rw [e] at hf1
      omega
    have HN1 := Lib.hid (fun W (hW : Below w.heap.size w W) => (needs_any a n c bs P8 q 2 (P8 : Int) (q : Int) 2 rfl rfl rfl W (HHW.out W hW) HL.out h20 (by omega) (by omega) hq2).mono (R' := fun e w' => e = .returned (.int .i64 (needE bs s : Nat)) ∧ W = w') (by
      rintro e w' ⟨he, hw⟩
      refine ⟨?_, hw⟩
      rw [he, HP8.out, entL, hq, HC.out]
      rfl))
    have HQ1 := Lib.hid (show IntKind.i64.wrap ((s : Int) * (C : Int)) = (q : Int) by rw [← Int.natCast_mul, ← hq]; exact IntWalk.i64_in _ (by omega))
    clear hf1 hq
    have hq1 := HQ1.out
    have hq3 : wrap64 ((s : Int) * (C : Int)) = (q : Int) := by rw [← IntWalk.i64_left]; exact hq1
    obtain ⟨E, hEE⟩ : ∃ E, E = needE bs s := ⟨_, rfl⟩
    rw [← hEE] at HN1 hnE hE6
    have HEE := Lib.hid hEE
    clear hEE
    go_wp2_with (first | (go_at_call 97; (with_reducible refine (HR1.out _ (by first | rfl | omega | exact IntWalk.i64_in _ (by omega)) _).mono ?_); rintro e wu ⟨rfl, rfl⟩))
    obtain ⟨X, hX⟩ : ∃ X, X = wr.alloc (Obj.cells (mrefA a n c C P8 P12 s nn k A4 (n - P4) (c - P4) a' rs.length c') 44) := ⟨_, rfl⟩
    have hbX : Below wr.heap.size wr X := by rw [hX]; exact blw
    have x13 : X.heap[wr.heap.size]? = some (Obj.cells (mrefA a n c C P8 P12 s nn k A4 (n - P4) (c - P4) a' rs.length c') 44 (0, 0)) := by rw [hX]; exact (heap_push _ _ _).trans (if_pos rfl)
    have HKX := Lib.hid (HK.out.below hbX)
    have x8 := (hbX.block _ l8).trans H8.out
    have hXe := hX
    simp only [mrefA] at hXe
    rw [← hXe]
    have HX13 := Lib.hid x13
    have HX8 := Lib.hid x8
    have hzX : wr.heap.size < X.heap.size := (Array.getElem?_eq_some_iff.1 x13).1
    have HBX := Lib.hid (HBR.out.trans (hbX.mono HBR.out.size))
    have HX6 := Lib.hid ((hbX.block _ (Array.getElem?_eq_some_iff.1 H6.out).1).trans H6.out)
    have hzw : w.heap.size ≤ X.heap.size := HBX.out.size
    have q8 := fun o => cell_of_heap x8 o
    simp only [mrefA] at q8
    have f8 := fun o => froz_of_heap x8 o
    have lX8 : w.heap.size + 1 < X.heap.size := by omega
    clear hX hXe hbX x13 x8
    rcases Nat.lt_or_ge nn E with hlt1 | hge1
    · skip
      have hmz2 := hmz.out
      refine wp_region_last (.step 0 (.step 1 (.step 2 (.step 3 (.step 4 (.step 5 (.step 6 (.step 7 (.step 8 (.step 9 (.step 10 (.step 11 (.step 12 (.step 13 .nil)))))))))))))) 13 (by kernel_rfl) (by kernel_rfl) (by kernel_rfl) (by kernel_rfl) (by kernel_rfl) (by intro _ _ d_ _ _ h_; cases d_ <;> first | exact h_ | (dsimp +zetaDelta only at h_ ⊢; exact h_)) (fun w' => ∃ p : Wld X [], w' = p.val) (wld_start _ _) ?_
      have hG_ := @wldC X
      (refine z_quiet gtA (by rfl) (by rfl) (fun K_ hK_ => ?_); go_big_quiet_op; refine hK_ _ ?_; clear hK_ K_)
      (refine z_quiet gtA (by rfl) (by rfl) (fun K_ hK_ => ?_); go_big_quiet_op; refine hK_ _ ?_; clear hK_ K_)
      (refine z_quiet gtA (by rfl) (by rfl) (fun K_ hK_ => ?_); go_big_quiet_op; refine hK_ _ ?_; clear hK_ K_)
      (refine z_quiet gtA (by rfl) (by rfl) (fun K_ hK_ => ?_); go_big_quiet_op; refine hK_ _ ?_; clear hK_ K_)
      (refine z_quiet gtA (by rfl) (by rfl) (fun K_ hK_ => ?_); go_big_quiet_op; refine hK_ _ ?_; clear hK_ K_)
      (refine z_quiet gtA (by rfl) (by rfl) (fun K_ hK_ => ?_); go_big_quiet_op; refine hK_ _ ?_; clear hK_ K_)
      (refine z_quiet gtA (by rfl) (by rfl) (fun K_ hK_ => ?_); go_big_quiet_op; refine hK_ _ ?_; clear hK_ K_)
      (refine z_quiet gtA (by rfl) (by rfl) (fun K_ hK_ => ?_); go_big_quiet_op; refine hK_ _ ?_; clear hK_ K_)
      (refine z_quiet gtA (by rfl) (by rfl) (fun K_ hK_ => ?_); go_big_quiet_op; refine hK_ _ ?_; clear hK_ K_)
      (refine z_quiet gtA (by rfl) (by rfl) (fun K_ hK_ => ?_); go_big_quiet_op; refine hK_ _ ?_; clear hK_ K_)
      (refine z_run gtA (by rfl) (by rfl) (fun K_ hK_ => ?_); have HK_ := Lib.hid hK_; clear hK_; go_wp2_with ((go_at_call 116; (with_reducible refine (HN1.out _ (HBX.out.trans (Below.mono (w := X) (by exact blw) hzw))).mono ?_); rintro e wu ⟨rfl, rfl⟩)); refine HK_.out _ _ (wld_ofA) ?_; clear HK_)
      (refine z_quiet gtA (by rfl) (by rfl) (fun K_ hK_ => ?_); go_big_quiet_op; refine hK_ _ ?_; clear hK_ K_)
      (refine z_quiet gtA (by rfl) (by rfl) (fun K_ hK_ => ?_); go_big_quiet_op; refine hK_ _ ?_; clear hK_ K_)
      (refine z_last gtA (by rfl) (by rfl) (by rfl) (fun K_ hK_ => ?_); have HK_ := Lib.hid hK_; clear hK_; go_wp2_with ((go_at_call 116; (with_reducible refine (HN1.out _ (HBX.out.trans (Below.mono (w := X) (by exact blw) hzw))).mono ?_); rintro e wu ⟨rfl, rfl⟩)); refine HK_.out _ _ ?_; clear HK_)
      refine z_nil ?_
      clear hG_
      obtain ⟨Y, hY⟩ : ∃ Y, Y = (X.setCell ⟨w.heap.size + 1, 5, none⟩ (.int .i64 (E : Nat))).drew := ⟨_, rfl⟩
      rw [← hY]
      have y8 : Y.heap[w.heap.size + 1]? = some (Obj.cells (mrefA a n c C P8 P12 s E k A4 (n - P4) (c - P4) a' rs.length c') 44 (0, 0)) := by rw [hY]; exact set_heap_at _ HX8.out
      have y6 : Y.heap[w.heap.size]? = some (.cells #[.slice none 0 0, .int .i64 0, .int .i64 0, .int .i64 0, .int .i64 0, .int .i64 0, .int .i64 0, .slice none 0 0, .slice none 0 0] 44 (0, 0)) := by rw [hY]; exact (set_heap_other _ (by omega)).trans HX6.out
      have y13 : Y.heap[wr.heap.size]? = some (Obj.cells (mrefA a n c C P8 P12 s nn k A4 (n - P4) (c - P4) a' rs.length c') 44 (0, 0)) := by rw [hY]; exact (set_heap_other _ (by omega)).trans HX13.out
      have hbY : Below w.heap.size w Y := by rw [hY]; exact (HBX.out.setCell (p := ⟨w.heap.size + 1, 5, none⟩) (by show w.heap.size ≤ w.heap.size + 1; omega) _).drew
      have hzY : Y.heap.size = X.heap.size := by rw [hY]; simp
      have HBY := Lib.hid hbY
      have HKY := Lib.hid (show HasN (w.heap.size + 2) Y a' (encRs rs) from by rw [hY]; exact (HKX.out.set (Nat.lt_succ_self _) _).drew)
      have Y8 := Lib.hid y8
      have Y6 := Lib.hid y6
      have Y13 := Lib.hid y13
      have hwY : w.heap.size ≤ Y.heap.size := by omega
      have lY8 : w.heap.size + 1 < Y.heap.size := by omega
      have lY13 : wr.heap.size < Y.heap.size := by omega
      have q8 := fun o => cell_of_heap y8 o
      have q13 := fun o => cell_of_heap y13 o
      have f8 := fun o => froz_of_heap y8 o
      simp only [mrefA] at q8 q13
      clear hY y8 y6 y13 hbY HN1 HR1 hq1 hq3
      by_cases hf2 : E * sz ≤ n - P12
      case neg =>
        have HNO := Lib.hid (show ∀ rs S, ¬ MOk bs glyphs k rs S from fun rs S ho => hf2 (by
          have h1 := ho.fitE
          rw [← HSZ.out, ← HP12.out, HL.out] at h1
          have h2 := needE_mono bs (HI.out.least S ho.least.closed)
          rw [← HEE.out] at h2
          exact Nat.le_trans (Nat.mul_le_mul_right _ h2) h1))
        have HR2 := Lib.hid (fun (z : Int) (hz : z = (sz : Nat)) W => rows_no n P12 E sz z hz W hnm hPn.2.2 (by omega) (by omega) hE6 hf2)
        clear hf2
        go_wp2_with (first | (go_at_call 97; (with_reducible refine (HR2.out _ (by first | rfl | omega) _).mono ?_); rintro e wu ⟨rfl, rfl⟩))
        go_roundw
        case rel => exact ⟨HBY.out, Y6.out, .inr ⟨rfl, HNO.out⟩⟩
        case measure =>
          rw [hmz2, rMeas_false]
          omega
      have HF2 := Lib.hid hf2
      have HR2 := Lib.hid (fun (z : Int) (hz : z = (sz : Nat)) W => rows_yes n P12 E sz z hz W hnm hPn.2.2 (by omega) (by omega) hE6 hf2)
      have HN2 := Lib.hid (fun W (hW : Below w.heap.size w W) => (needs_any a n c bs P12 E sz (P12 : Int) (E : Int) (sz : Int) rfl rfl rfl W (HHW.out W hW) HL.out h20 (by omega) (by omega) (by omega)).mono (R' := fun e w' => e = .returned (.int .i64 (needS bs k E : Nat)) ∧ W = w') (by
        rintro e w' ⟨he, hw⟩
        refine ⟨?_, hw⟩
        rw [he, HP12.out, HSZ.out, nextL]
        rfl))
      have hS6 := needS_le bs k E
      have HNX := Lib.hid (show RInv bs k (max s (needS bs k E)) E from by have := HI.out.next; rwa [← HEE.out] at this)
      have HDN := Lib.hid (show needS bs k E ≤ s → E = nn → MLeast bs k s from fun h1 h2 => HI.out.done (by rw [← HEE.out]; omega) (by first | (rw [← HEE.out]; exact h2) | exact HEE.out.symm))
      clear hf2
      generalize needS bs k E = S2 at *
      go_wp2_with (first | (go_at_call 97; (with_reducible refine (HR2.out _ (by first | rfl | omega) _).mono ?_); rintro e wu ⟨rfl, rfl⟩))
      rcases Nat.lt_or_ge s S2 with hlt2 | hge2
      · have hne : ((S2 : Int) == (s : Int)) = false := by rw [beq_eq_false_iff_ne]; omega
        refine wp_region_last (.step 0 (.step 1 (.step 2 (.step 3 (.step 4 (.step 5 (.step 6 (.step 7 (.step 8 (.step 9 (.step 10 (.step 11 .nil)))))))))))) 11 (by kernel_rfl) (by kernel_rfl) (by kernel_rfl) (by kernel_rfl) (by kernel_rfl) (by intro _ _ d_ _ _ h_; cases d_ <;> first | exact h_ | (dsimp +zetaDelta only at h_ ⊢; exact h_)) (fun w' => ∃ p : Wld Y [], w' = p.val) (wld_start _ _) ?_
        have hG_ := @wldC Y
        (refine z_quiet gtA (by rfl) (by rfl) (fun K_ hK_ => ?_); go_big_quiet_op; refine hK_ _ ?_; clear hK_ K_)
        (refine z_quiet gtA (by rfl) (by rfl) (fun K_ hK_ => ?_); go_big_quiet_op; refine hK_ _ ?_; clear hK_ K_)
        (refine z_quiet gtA (by rfl) (by rfl) (fun K_ hK_ => ?_); go_big_quiet_op; refine hK_ _ ?_; clear hK_ K_)
        (refine z_quiet gtA (by rfl) (by rfl) (fun K_ hK_ => ?_); go_big_quiet_op; refine hK_ _ ?_; clear hK_ K_)
        (refine z_quiet gtA (by rfl) (by rfl) (fun K_ hK_ => ?_); go_big_quiet_op; refine hK_ _ ?_; clear hK_ K_)
        (refine z_quiet gtA (by rfl) (by rfl) (fun K_ hK_ => ?_); go_big_quiet_op; refine hK_ _ ?_; clear hK_ K_)
        (refine z_quiet gtA (by rfl) (by rfl) (fun K_ hK_ => ?_); go_big_quiet_op; refine hK_ _ ?_; clear hK_ K_)
        (refine z_quiet gtA (by rfl) (by rfl) (fun K_ hK_ => ?_); go_big_quiet_op; refine hK_ _ ?_; clear hK_ K_)
        (refine z_run gtA (by rfl) (by rfl) (fun K_ hK_ => ?_); have HK_ := Lib.hid hK_; clear hK_; go_wp2_with ((go_at_call 116; (with_reducible refine (HN2.out _ (HBY.out.trans (Below.mono (w := Y) (by exact blw) hwY))).mono ?_); rintro e wu ⟨rfl, rfl⟩)); refine HK_.out _ _ (wld_ofA) ?_; clear HK_)
        (refine z_quiet gtA (by rfl) (by rfl) (fun K_ hK_ => ?_); go_big_quiet_op; refine hK_ _ ?_; clear hK_ K_)
        (refine z_quiet gtA (by rfl) (by rfl) (fun K_ hK_ => ?_); go_big_quiet_op; refine hK_ _ ?_; clear hK_ K_)
        (refine z_last gtA (by rfl) (by rfl) (by rfl) (fun K_ hK_ => ?_); have HK_ := Lib.hid hK_; clear hK_; go_wp2_with ((go_at_call 116; (with_reducible refine (HN2.out _ (HBY.out.trans (Below.mono (w := Y) (by exact blw) hwY))).mono ?_); rintro e wu ⟨rfl, rfl⟩)); refine HK_.out _ _ ?_; clear HK_)
        refine z_nil ?_
        clear hG_
        obtain ⟨Z, hZ⟩ : ∃ Z, Z = (Y.setCell ⟨w.heap.size + 1, 4, none⟩ (.int .i64 (S2 : Nat))).drew := ⟨_, rfl⟩
        rw [← hZ]
        have z8 : Z.heap[w.heap.size + 1]? = some (Obj.cells (mrefA a n c C P8 P12 S2 E k A4 (n - P4) (c - P4) a' rs.length c') 44 (0, 0)) := by rw [hZ]; exact set_heap_at _ Y8.out
        have z6 : Z.heap[w.heap.size]? = some (.cells #[.slice none 0 0, .int .i64 0, .int .i64 0, .int .i64 0, .int .i64 0, .int .i64 0, .int .i64 0, .slice none 0 0, .slice none 0 0] 44 (0, 0)) := by rw [hZ]; exact (set_heap_other _ (by omega)).trans Y6.out
        have z13 : Z.heap[wr.heap.size]? = some (Obj.cells (mrefA a n c C P8 P12 s nn k A4 (n - P4) (c - P4) a' rs.length c') 44 (0, 0)) := by rw [hZ]; exact (set_heap_other _ (by omega)).trans Y13.out
        have HBZ := Lib.hid (show Below w.heap.size w Z from by rw [hZ]; exact (HBY.out.setCell (p := ⟨w.heap.size + 1, 4, none⟩) (by show w.heap.size ≤ w.heap.size + 1; omega) _).drew)
        have HKZ := Lib.hid (show HasN (w.heap.size + 2) Z a' (encRs rs) from by rw [hZ]; exact (HKY.out.set (Nat.lt_succ_self _) _).drew)
        have Z8' := Lib.hid z8
        have Z6' := Lib.hid z6
        have q8 := fun o => cell_of_heap z8 o
        have q13 := fun o => cell_of_heap z13 o
        simp only [mrefA] at q8 q13
        clear hZ z8 z6 z13 f8
        go_wp2_with fail
        go_roundw
        case rel => exact ⟨HBZ.out, Z6'.out, .inl ⟨S2, E, rfl, by have := HNX.out; rwa [Nat.max_eq_right (by omega)] at this, Z8'.out, HKZ.out⟩⟩
        case measure =>
          rw [hmz2, rMeas_true (s := S2) (n := E) (cell_of_heap Z8'.out 4) (cell_of_heap Z8'.out 5)]
          omega
      · skip
        refine wp_region_last (.step 0 (.step 1 (.step 2 (.step 3 (.step 4 (.step 5 (.step 6 (.step 7 (.step 8 (.step 9 (.step 10 (.step 11 .nil)))))))))))) 11 (by kernel_rfl) (by kernel_rfl) (by kernel_rfl) (by kernel_rfl) (by kernel_rfl) (by intro _ _ d_ _ _ h_; cases d_ <;> first | exact h_ | (dsimp +zetaDelta only at h_ ⊢; exact h_)) (fun w' => ∃ p : Wld Y [], w' = p.val) (wld_start _ _) ?_
        have hG_ := @wldC Y
        (refine z_quiet gtA (by rfl) (by rfl) (fun K_ hK_ => ?_); go_big_quiet_op; refine hK_ _ ?_; clear hK_ K_)
        (refine z_quiet gtA (by rfl) (by rfl) (fun K_ hK_ => ?_); go_big_quiet_op; refine hK_ _ ?_; clear hK_ K_)
        (refine z_quiet gtA (by rfl) (by rfl) (fun K_ hK_ => ?_); go_big_quiet_op; refine hK_ _ ?_; clear hK_ K_)
        (refine z_quiet gtA (by rfl) (by rfl) (fun K_ hK_ => ?_); go_big_quiet_op; refine hK_ _ ?_; clear hK_ K_)
        (refine z_quiet gtA (by rfl) (by rfl) (fun K_ hK_ => ?_); go_big_quiet_op; refine hK_ _ ?_; clear hK_ K_)
        (refine z_quiet gtA (by rfl) (by rfl) (fun K_ hK_ => ?_); go_big_quiet_op; refine hK_ _ ?_; clear hK_ K_)
        (refine z_quiet gtA (by rfl) (by rfl) (fun K_ hK_ => ?_); go_big_quiet_op; refine hK_ _ ?_; clear hK_ K_)
        (refine z_quiet gtA (by rfl) (by rfl) (fun K_ hK_ => ?_); go_big_quiet_op; refine hK_ _ ?_; clear hK_ K_)
        (refine z_run gtA (by rfl) (by rfl) (fun K_ hK_ => ?_); have HK_ := Lib.hid hK_; clear hK_; go_wp2_with ((go_at_call 116; (with_reducible refine (HN2.out _ (HBY.out.trans (Below.mono (w := Y) (by exact blw) hwY))).mono ?_); rintro e wu ⟨rfl, rfl⟩)); refine HK_.out _ _ (wld_ofA) ?_; clear HK_)
        (refine z_quiet gtA (by rfl) (by rfl) (fun K_ hK_ => ?_); go_big_quiet_op; refine hK_ _ ?_; clear hK_ K_)
        (refine z_quiet gtA (by rfl) (by rfl) (fun K_ hK_ => ?_); go_big_quiet_op; refine hK_ _ ?_; clear hK_ K_)
        (refine z_last gtA (by rfl) (by rfl) (by rfl) (fun K_ hK_ => ?_); have HK_ := Lib.hid hK_; clear hK_; go_wp2_with ((go_at_call 116; (with_reducible refine (HN2.out _ (HBY.out.trans (Below.mono (w := Y) (by exact blw) hwY))).mono ?_); rintro e wu ⟨rfl, rfl⟩)); refine HK_.out _ _ ?_; clear HK_)
        refine z_nil ?_
        clear hG_
        obtain ⟨Z, hZ⟩ : ∃ Z, Z = (Y.setCell ⟨w.heap.size + 1, 4, none⟩ (.int .i64 (s : Nat))).drew := ⟨_, rfl⟩
        rw [← hZ]
        have z8 : Z.heap[w.heap.size + 1]? = some (Obj.cells (mrefA a n c C P8 P12 s E k A4 (n - P4) (c - P4) a' rs.length c') 44 (0, 0)) := by rw [hZ]; exact set_heap_at _ Y8.out
        have z6 : Z.heap[w.heap.size]? = some (.cells #[.slice none 0 0, .int .i64 0, .int .i64 0, .int .i64 0, .int .i64 0, .int .i64 0, .int .i64 0, .slice none 0 0, .slice none 0 0] 44 (0, 0)) := by rw [hZ]; exact (set_heap_other _ (by omega)).trans Y6.out
        have z13 : Z.heap[wr.heap.size]? = some (Obj.cells (mrefA a n c C P8 P12 s nn k A4 (n - P4) (c - P4) a' rs.length c') 44 (0, 0)) := by rw [hZ]; exact (set_heap_other _ (by omega)).trans Y13.out
        have HBZ := Lib.hid (show Below w.heap.size w Z from by rw [hZ]; exact (HBY.out.setCell (p := ⟨w.heap.size + 1, 4, none⟩) (by show w.heap.size ≤ w.heap.size + 1; omega) _).drew)
        have HKZ := Lib.hid (show HasN (w.heap.size + 2) Z a' (encRs rs) from by rw [hZ]; exact (HKY.out.set (Nat.lt_succ_self _) _).drew)
        have Z8' := Lib.hid z8
        have Z6' := Lib.hid z6
        have q8 := fun o => cell_of_heap z8 o
        have q13 := fun o => cell_of_heap z13 o
        have q6 := fun o => cell_of_heap z6 o
        have f6 := fun o => froz_of_heap z6 o
        have l6 := (Array.getElem?_eq_some_iff.1 z6).1
        simp only [mrefA] at q8 q13
        clear hZ z8 z6 z13 f8
        have hne : ((E : Int) == (nn : Int)) = false := by rw [beq_eq_false_iff_ne]; omega
        go_wp2_with fail
        go_roundw
        case rel => exact ⟨HBZ.out, Z6'.out, .inl ⟨s, E, rfl, by have := HNX.out; rwa [Nat.max_eq_left (by omega)] at this, Z8'.out, HKZ.out⟩⟩
        case measure =>
          rw [hmz2, rMeas_true (s := s) (n := E) (cell_of_heap Z8'.out 4) (cell_of_heap Z8'.out 5)]
          omega
    · obtain rfl : nn = E := by omega
      have hmz2 := hmz.out
      refine wp_region_last (.step 0 (.step 1 (.step 2 (.step 3 (.step 4 (.step 5 (.step 6 (.step 7 (.step 8 (.step 9 (.step 10 (.step 11 (.step 12 (.step 13 .nil)))))))))))))) 13 (by kernel_rfl) (by kernel_rfl) (by kernel_rfl) (by kernel_rfl) (by kernel_rfl) (by intro _ _ d_ _ _ h_; cases d_ <;> first | exact h_ | (dsimp +zetaDelta only at h_ ⊢; exact h_)) (fun w' => ∃ p : Wld X [], w' = p.val) (wld_start _ _) ?_
      have hG_ := @wldC X
      (refine z_quiet gtA (by rfl) (by rfl) (fun K_ hK_ => ?_); go_big_quiet_op; refine hK_ _ ?_; clear hK_ K_)
      (refine z_quiet gtA (by rfl) (by rfl) (fun K_ hK_ => ?_); go_big_quiet_op; refine hK_ _ ?_; clear hK_ K_)
      (refine z_quiet gtA (by rfl) (by rfl) (fun K_ hK_ => ?_); go_big_quiet_op; refine hK_ _ ?_; clear hK_ K_)
      (refine z_quiet gtA (by rfl) (by rfl) (fun K_ hK_ => ?_); go_big_quiet_op; refine hK_ _ ?_; clear hK_ K_)
      (refine z_quiet gtA (by rfl) (by rfl) (fun K_ hK_ => ?_); go_big_quiet_op; refine hK_ _ ?_; clear hK_ K_)
      (refine z_quiet gtA (by rfl) (by rfl) (fun K_ hK_ => ?_); go_big_quiet_op; refine hK_ _ ?_; clear hK_ K_)
      (refine z_quiet gtA (by rfl) (by rfl) (fun K_ hK_ => ?_); go_big_quiet_op; refine hK_ _ ?_; clear hK_ K_)
      (refine z_quiet gtA (by rfl) (by rfl) (fun K_ hK_ => ?_); go_big_quiet_op; refine hK_ _ ?_; clear hK_ K_)
      (refine z_quiet gtA (by rfl) (by rfl) (fun K_ hK_ => ?_); go_big_quiet_op; refine hK_ _ ?_; clear hK_ K_)
      (refine z_quiet gtA (by rfl) (by rfl) (fun K_ hK_ => ?_); go_big_quiet_op; refine hK_ _ ?_; clear hK_ K_)
      (refine z_run gtA (by rfl) (by rfl) (fun K_ hK_ => ?_); have HK_ := Lib.hid hK_; clear hK_; go_wp2_with ((go_at_call 116; (with_reducible refine (HN1.out _ (HBX.out.trans (Below.mono (w := X) (by exact blw) hzw))).mono ?_); rintro e wu ⟨rfl, rfl⟩)); refine HK_.out _ _ (wld_ofA) ?_; clear HK_)
      (refine z_quiet gtA (by rfl) (by rfl) (fun K_ hK_ => ?_); go_big_quiet_op; refine hK_ _ ?_; clear hK_ K_)
      (refine z_quiet gtA (by rfl) (by rfl) (fun K_ hK_ => ?_); go_big_quiet_op; refine hK_ _ ?_; clear hK_ K_)
      (refine z_last gtA (by rfl) (by rfl) (by rfl) (fun K_ hK_ => ?_); have HK_ := Lib.hid hK_; clear hK_; go_wp2_with ((go_at_call 116; (with_reducible refine (HN1.out _ (HBX.out.trans (Below.mono (w := X) (by exact blw) hzw))).mono ?_); rintro e wu ⟨rfl, rfl⟩)); refine HK_.out _ _ ?_; clear HK_)
      refine z_nil ?_
      clear hG_
      obtain ⟨Y, hY⟩ : ∃ Y, Y = (X.setCell ⟨w.heap.size + 1, 5, none⟩ (.int .i64 (nn : Nat))).drew := ⟨_, rfl⟩
      rw [← hY]
      have y8 : Y.heap[w.heap.size + 1]? = some (Obj.cells (mrefA a n c C P8 P12 s nn k A4 (n - P4) (c - P4) a' rs.length c') 44 (0, 0)) := by rw [hY]; exact set_heap_at _ HX8.out
      have y6 : Y.heap[w.heap.size]? = some (.cells #[.slice none 0 0, .int .i64 0, .int .i64 0, .int .i64 0, .int .i64 0, .int .i64 0, .int .i64 0, .slice none 0 0, .slice none 0 0] 44 (0, 0)) := by rw [hY]; exact (set_heap_other _ (by omega)).trans HX6.out
      have y13 : Y.heap[wr.heap.size]? = some (Obj.cells (mrefA a n c C P8 P12 s nn k A4 (n - P4) (c - P4) a' rs.length c') 44 (0, 0)) := by rw [hY]; exact (set_heap_other _ (by omega)).trans HX13.out
      have hbY : Below w.heap.size w Y := by rw [hY]; exact (HBX.out.setCell (p := ⟨w.heap.size + 1, 5, none⟩) (by show w.heap.size ≤ w.heap.size + 1; omega) _).drew
      have hzY : Y.heap.size = X.heap.size := by rw [hY]; simp
      have HBY := Lib.hid hbY
      have HKY := Lib.hid (show HasN (w.heap.size + 2) Y a' (encRs rs) from by rw [hY]; exact (HKX.out.set (Nat.lt_succ_self _) _).drew)
      have Y8 := Lib.hid y8
      have Y6 := Lib.hid y6
      have Y13 := Lib.hid y13
      have hwY : w.heap.size ≤ Y.heap.size := by omega
      have lY8 : w.heap.size + 1 < Y.heap.size := by omega
      have lY13 : wr.heap.size < Y.heap.size := by omega
      have q8 := fun o => cell_of_heap y8 o
      have q13 := fun o => cell_of_heap y13 o
      have f8 := fun o => froz_of_heap y8 o
      simp only [mrefA] at q8 q13
      clear hY y8 y6 y13 hbY HN1 HR1 hq1 hq3
      by_cases hf2 : nn * sz ≤ n - P12
      case neg =>
        have HNO := Lib.hid (show ∀ rs S, ¬ MOk bs glyphs k rs S from fun rs S ho => hf2 (by
          have h1 := ho.fitE
          rw [← HSZ.out, ← HP12.out, HL.out] at h1
          have h2 := needE_mono bs (HI.out.least S ho.least.closed)
          rw [← HEE.out] at h2
          exact Nat.le_trans (Nat.mul_le_mul_right _ h2) h1))
        have HR2 := Lib.hid (fun (z : Int) (hz : z = (sz : Nat)) W => rows_no n P12 nn sz z hz W hnm hPn.2.2 (by omega) (by omega) hE6 hf2)
        clear hf2
        go_wp2_with (first | (go_at_call 97; (with_reducible refine (HR2.out _ (by first | rfl | omega) _).mono ?_); rintro e wu ⟨rfl, rfl⟩))
        go_roundw
        case rel => exact ⟨HBY.out, Y6.out, .inr ⟨rfl, HNO.out⟩⟩
        case measure =>
          rw [hmz2, rMeas_false]
          omega
      have HF2 := Lib.hid hf2
      have HR2 := Lib.hid (fun (z : Int) (hz : z = (sz : Nat)) W => rows_yes n P12 nn sz z hz W hnm hPn.2.2 (by omega) (by omega) hE6 hf2)
      have HN2 := Lib.hid (fun W (hW : Below w.heap.size w W) => (needs_any a n c bs P12 nn sz (P12 : Int) (nn : Int) (sz : Int) rfl rfl rfl W (HHW.out W hW) HL.out h20 (by omega) (by omega) (by omega)).mono (R' := fun e w' => e = .returned (.int .i64 (needS bs k nn : Nat)) ∧ W = w') (by
        rintro e w' ⟨he, hw⟩
        refine ⟨?_, hw⟩
        rw [he, HP12.out, HSZ.out, nextL]
        rfl))
      have hS6 := needS_le bs k nn
      have HNX := Lib.hid (show RInv bs k (max s (needS bs k nn)) nn from by have := HI.out.next; rwa [← HEE.out] at this)
      have HDN := Lib.hid (show needS bs k nn ≤ s → nn = nn → MLeast bs k s from fun h1 h2 => HI.out.done (by rw [← HEE.out]; omega) (by first | (rw [← HEE.out]; exact h2) | exact HEE.out.symm))
      clear hf2
      generalize needS bs k nn = S2 at *
      go_wp2_with (first | (go_at_call 97; (with_reducible refine (HR2.out _ (by first | rfl | omega) _).mono ?_); rintro e wu ⟨rfl, rfl⟩))
      rcases Nat.lt_or_ge s S2 with hlt2 | hge2
      · have hne : ((S2 : Int) == (s : Int)) = false := by rw [beq_eq_false_iff_ne]; omega
        refine wp_region_last (.step 0 (.step 1 (.step 2 (.step 3 (.step 4 (.step 5 (.step 6 (.step 7 (.step 8 (.step 9 (.step 10 (.step 11 .nil)))))))))))) 11 (by kernel_rfl) (by kernel_rfl) (by kernel_rfl) (by kernel_rfl) (by kernel_rfl) (by intro _ _ d_ _ _ h_; cases d_ <;> first | exact h_ | (dsimp +zetaDelta only at h_ ⊢; exact h_)) (fun w' => ∃ p : Wld Y [], w' = p.val) (wld_start _ _) ?_
        have hG_ := @wldC Y
        (refine z_quiet gtA (by rfl) (by rfl) (fun K_ hK_ => ?_); go_big_quiet_op; refine hK_ _ ?_; clear hK_ K_)
        (refine z_quiet gtA (by rfl) (by rfl) (fun K_ hK_ => ?_); go_big_quiet_op; refine hK_ _ ?_; clear hK_ K_)
        (refine z_quiet gtA (by rfl) (by rfl) (fun K_ hK_ => ?_); go_big_quiet_op; refine hK_ _ ?_; clear hK_ K_)
        (refine z_quiet gtA (by rfl) (by rfl) (fun K_ hK_ => ?_); go_big_quiet_op; refine hK_ _ ?_; clear hK_ K_)
        (refine z_quiet gtA (by rfl) (by rfl) (fun K_ hK_ => ?_); go_big_quiet_op; refine hK_ _ ?_; clear hK_ K_)
        (refine z_quiet gtA (by rfl) (by rfl) (fun K_ hK_ => ?_); go_big_quiet_op; refine hK_ _ ?_; clear hK_ K_)
        (refine z_quiet gtA (by rfl) (by rfl) (fun K_ hK_ => ?_); go_big_quiet_op; refine hK_ _ ?_; clear hK_ K_)
        (refine z_quiet gtA (by rfl) (by rfl) (fun K_ hK_ => ?_); go_big_quiet_op; refine hK_ _ ?_; clear hK_ K_)
        (refine z_run gtA (by rfl) (by rfl) (fun K_ hK_ => ?_); have HK_ := Lib.hid hK_; clear hK_; go_wp2_with ((go_at_call 116; (with_reducible refine (HN2.out _ (HBY.out.trans (Below.mono (w := Y) (by exact blw) hwY))).mono ?_); rintro e wu ⟨rfl, rfl⟩)); refine HK_.out _ _ (wld_ofA) ?_; clear HK_)
        (refine z_quiet gtA (by rfl) (by rfl) (fun K_ hK_ => ?_); go_big_quiet_op; refine hK_ _ ?_; clear hK_ K_)
        (refine z_quiet gtA (by rfl) (by rfl) (fun K_ hK_ => ?_); go_big_quiet_op; refine hK_ _ ?_; clear hK_ K_)
        (refine z_last gtA (by rfl) (by rfl) (by rfl) (fun K_ hK_ => ?_); have HK_ := Lib.hid hK_; clear hK_; go_wp2_with ((go_at_call 116; (with_reducible refine (HN2.out _ (HBY.out.trans (Below.mono (w := Y) (by exact blw) hwY))).mono ?_); rintro e wu ⟨rfl, rfl⟩)); refine HK_.out _ _ ?_; clear HK_)
        refine z_nil ?_
        clear hG_
        obtain ⟨Z, hZ⟩ : ∃ Z, Z = (Y.setCell ⟨w.heap.size + 1, 4, none⟩ (.int .i64 (S2 : Nat))).drew := ⟨_, rfl⟩
        rw [← hZ]
        have z8 : Z.heap[w.heap.size + 1]? = some (Obj.cells (mrefA a n c C P8 P12 S2 nn k A4 (n - P4) (c - P4) a' rs.length c') 44 (0, 0)) := by rw [hZ]; exact set_heap_at _ Y8.out
        have z6 : Z.heap[w.heap.size]? = some (.cells #[.slice none 0 0, .int .i64 0, .int .i64 0, .int .i64 0, .int .i64 0, .int .i64 0, .int .i64 0, .slice none 0 0, .slice none 0 0] 44 (0, 0)) := by rw [hZ]; exact (set_heap_other _ (by omega)).trans Y6.out
        have z13 : Z.heap[wr.heap.size]? = some (Obj.cells (mrefA a n c C P8 P12 s nn k A4 (n - P4) (c - P4) a' rs.length c') 44 (0, 0)) := by rw [hZ]; exact (set_heap_other _ (by omega)).trans Y13.out
        have HBZ := Lib.hid (show Below w.heap.size w Z from by rw [hZ]; exact (HBY.out.setCell (p := ⟨w.heap.size + 1, 4, none⟩) (by show w.heap.size ≤ w.heap.size + 1; omega) _).drew)
        have HKZ := Lib.hid (show HasN (w.heap.size + 2) Z a' (encRs rs) from by rw [hZ]; exact (HKY.out.set (Nat.lt_succ_self _) _).drew)
        have Z8' := Lib.hid z8
        have Z6' := Lib.hid z6
        have q8 := fun o => cell_of_heap z8 o
        have q13 := fun o => cell_of_heap z13 o
        simp only [mrefA] at q8 q13
        clear hZ z8 z6 z13 f8
        go_wp2_with fail
        go_roundw
        case rel => exact ⟨HBZ.out, Z6'.out, .inl ⟨S2, nn, rfl, by have := HNX.out; rwa [Nat.max_eq_right (by omega)] at this, Z8'.out, HKZ.out⟩⟩
        case measure =>
          rw [hmz2, rMeas_true (s := S2) (n := nn) (cell_of_heap Z8'.out 4) (cell_of_heap Z8'.out 5)]
          omega
      · skip
        refine wp_region_last (.step 0 (.step 1 (.step 2 (.step 3 (.step 4 (.step 5 (.step 6 (.step 7 (.step 8 (.step 9 (.step 10 (.step 11 .nil)))))))))))) 11 (by kernel_rfl) (by kernel_rfl) (by kernel_rfl) (by kernel_rfl) (by kernel_rfl) (by intro _ _ d_ _ _ h_; cases d_ <;> first | exact h_ | (dsimp +zetaDelta only at h_ ⊢; exact h_)) (fun w' => ∃ p : Wld Y [], w' = p.val) (wld_start _ _) ?_
        have hG_ := @wldC Y
        (refine z_quiet gtA (by rfl) (by rfl) (fun K_ hK_ => ?_); go_big_quiet_op; refine hK_ _ ?_; clear hK_ K_)
        (refine z_quiet gtA (by rfl) (by rfl) (fun K_ hK_ => ?_); go_big_quiet_op; refine hK_ _ ?_; clear hK_ K_)
        (refine z_quiet gtA (by rfl) (by rfl) (fun K_ hK_ => ?_); go_big_quiet_op; refine hK_ _ ?_; clear hK_ K_)
        (refine z_quiet gtA (by rfl) (by rfl) (fun K_ hK_ => ?_); go_big_quiet_op; refine hK_ _ ?_; clear hK_ K_)
        (refine z_quiet gtA (by rfl) (by rfl) (fun K_ hK_ => ?_); go_big_quiet_op; refine hK_ _ ?_; clear hK_ K_)
        (refine z_quiet gtA (by rfl) (by rfl) (fun K_ hK_ => ?_); go_big_quiet_op; refine hK_ _ ?_; clear hK_ K_)
        (refine z_quiet gtA (by rfl) (by rfl) (fun K_ hK_ => ?_); go_big_quiet_op; refine hK_ _ ?_; clear hK_ K_)
        (refine z_quiet gtA (by rfl) (by rfl) (fun K_ hK_ => ?_); go_big_quiet_op; refine hK_ _ ?_; clear hK_ K_)
        (refine z_run gtA (by rfl) (by rfl) (fun K_ hK_ => ?_); have HK_ := Lib.hid hK_; clear hK_; go_wp2_with ((go_at_call 116; (with_reducible refine (HN2.out _ (HBY.out.trans (Below.mono (w := Y) (by exact blw) hwY))).mono ?_); rintro e wu ⟨rfl, rfl⟩)); refine HK_.out _ _ (wld_ofA) ?_; clear HK_)
        (refine z_quiet gtA (by rfl) (by rfl) (fun K_ hK_ => ?_); go_big_quiet_op; refine hK_ _ ?_; clear hK_ K_)
        (refine z_quiet gtA (by rfl) (by rfl) (fun K_ hK_ => ?_); go_big_quiet_op; refine hK_ _ ?_; clear hK_ K_)
        (refine z_last gtA (by rfl) (by rfl) (by rfl) (fun K_ hK_ => ?_); have HK_ := Lib.hid hK_; clear hK_; go_wp2_with ((go_at_call 116; (with_reducible refine (HN2.out _ (HBY.out.trans (Below.mono (w := Y) (by exact blw) hwY))).mono ?_); rintro e wu ⟨rfl, rfl⟩)); refine HK_.out _ _ ?_; clear HK_)
        refine z_nil ?_
        clear hG_
        obtain ⟨Z, hZ⟩ : ∃ Z, Z = (Y.setCell ⟨w.heap.size + 1, 4, none⟩ (.int .i64 (s : Nat))).drew := ⟨_, rfl⟩
        rw [← hZ]
        have z8 : Z.heap[w.heap.size + 1]? = some (Obj.cells (mrefA a n c C P8 P12 s nn k A4 (n - P4) (c - P4) a' rs.length c') 44 (0, 0)) := by rw [hZ]; exact set_heap_at _ Y8.out
        have z6 : Z.heap[w.heap.size]? = some (.cells #[.slice none 0 0, .int .i64 0, .int .i64 0, .int .i64 0, .int .i64 0, .int .i64 0, .int .i64 0, .slice none 0 0, .slice none 0 0] 44 (0, 0)) := by rw [hZ]; exact (set_heap_other _ (by omega)).trans Y6.out
        have z13 : Z.heap[wr.heap.size]? = some (Obj.cells (mrefA a n c C P8 P12 s nn k A4 (n - P4) (c - P4) a' rs.length c') 44 (0, 0)) := by rw [hZ]; exact (set_heap_other _ (by omega)).trans Y13.out
        have HBZ := Lib.hid (show Below w.heap.size w Z from by rw [hZ]; exact (HBY.out.setCell (p := ⟨w.heap.size + 1, 4, none⟩) (by show w.heap.size ≤ w.heap.size + 1; omega) _).drew)
        have HKZ := Lib.hid (show HasN (w.heap.size + 2) Z a' (encRs rs) from by rw [hZ]; exact (HKY.out.set (Nat.lt_succ_self _) _).drew)
        have Z8' := Lib.hid z8
        have Z6' := Lib.hid z6
        have q8 := fun o => cell_of_heap z8 o
        have q13 := fun o => cell_of_heap z13 o
        have q6 := fun o => cell_of_heap z6 o
        have f6 := fun o => froz_of_heap z6 o
        have l6 := (Array.getElem?_eq_some_iff.1 z6).1
        simp only [mrefA] at q8 q13
        clear hZ z8 z6 z13 f8
        go_wp2_with fail
        refine bodyPost_ret (v := .tuple #[.agg (mrefA a n c C P8 P12 s nn k A4 (n - P4) (c - P4) a' rs.length c'), .bool true]) (by simp [results, Try.results68, go_sem, q6, f6, l6, mrefA]) rfl ?_
        have hbr := HBZ.out
        refine ⟨.inl ⟨rs, s, a', c', ⟨by rw [HL.out]; exact h16, by rw [← HC.out]; exact hC4, by rw [HL.out, ← HP4.out]; exact hPn.1, by rw [← HP4.out]; exact HLK.out, by rw [HL.out, ← HP8.out]; exact hPn.2.1, by rw [HL.out, ← HP12.out]; exact hPn.2.2, HDN.out hge2 (by first | rfl | trivial), by rw [← HC.out, ← HP8.out, HL.out]; exact HF1.out, by rw [← HEE.out, ← HP12.out, HL.out, ← HSZ.out]; exact HF2.out⟩, ?_, HasN.mono (B := w.heap.size + 2) (by repeat (first | with_reducible exact HKZ.out | with_reducible refine HasN.set ?_ (Nat.lt_add_of_pos_right (Nat.zero_lt_succ 1)) _)) (Nat.le_add_right _ 2)⟩, blw⟩
        rw [← HC.out, ← HP8.out, ← HP12.out, ← HP4.out, HA5.out, ← HEE.out]
theorem refM_any (a : Option Addr) (n c : Nat) (bs : List UInt8) (glyphs k : Nat) (zg zk : Int) (hzg : zg = (glyphs : Nat)) (hzk : zk = (k : Nat)) (w : World) (h : Has w a (bytesV bs)) (hl : bs.length = n) (hn : n ≤ c) (hc : c ≤ maxLen) (h20 : n ≤ 4000) (hg1 : 1 ≤ glyphs) (hg2 : glyphs ≤ 65535) (hk : k ≤ 2) :
    Calls Try.prog 68 #[.slice a n c, .int .i64 zg, .int .i64 zk] w (RefMIs a n c bs glyphs k w) :=
  (refM_new a n c bs glyphs k zg zk hzg hzk w h hl hn hc h20 hg1 hg2 hk).mono fun _ _ h => ⟨h.1.imp (fun ⟨rs, S, a', c', h1, h2, _⟩ => ⟨rs, S, a', c', h1, h2⟩) id, h.2⟩
end Go.Proofs.Ytbicnkopmamnpaa
end
