
/- (*Table).apart. Conditions: a table in memory whose block is above the base, bytes below it; numbers within bounds. -/
import Derived.Test.YthjnpfhcjacibaaLAlike
namespace Go.Proofs.Ythjnpfhcjacibaa
open Go.RowKit Go.Lib

theorem number_z (a : Option Addr) (n c k s : Nat) (z zs : Int) (hz : z = (k : Nat)) (hzs : zs = (s : Nat)) (bs : List UInt8) (w : World) (h : Has w a (bytesV bs)) (hl : bs.length = n) (hs : s = 1 ∨ s = 2 ∨ s = 4) (hk : k + s ≤ n) (hn : n ≤ c) (hc : c ≤ maxLen) :
    Calls Try.prog 32 #[.agg #[.slice a n c], .int .i64 z, .int .i64 zs] w fun e w' => e = .returned (.int .u32 (num bs k s : Nat)) ∧ Below w.heap.size w w' := by
  subst hz; subst hzs; exact number_ok a n c k s bs w h hl hs hk hn hc
theorem num_takeS (bs : List UInt8) (m j : Nat) : ∀ s, j + s ≤ m → num (bs.take m) j s = num bs j s
  | 0, _ => rfl
  | s + 1, h => by
    have e : (bs.take m).getD (j + s) 0 = bs.getD (j + s) 0 := by
      simp only [List.getD_eq_getElem?_getD, List.getElem?_take]
      rw [if_pos (by omega)]
    rw [num, num, num_takeS bs m j s (by omega), e]
theorem num_dropS (bs : List UInt8) (m j : Nat) : ∀ s, num (bs.drop m) j s = num bs (m + j) s
  | 0 => rfl
  | s + 1 => by
    rw [num, num, num_dropS bs m j s]
    simp only [List.getD_eq_getElem?_getD, List.getElem?_drop, Nat.add_assoc]
theorem rows_zc (a : Option Addr) (n c k m s : Nat) (x y z : Int) (hx : x = (k : Nat)) (hy : y = (m : Nat)) (hz : z = (s : Nat)) (w : World) (hm : m ≤ 100000) (h0 : 0 < s) (h9 : s ≤ 100) (hbad : ¬ (k ≤ n ∧ m ≤ (n - k) / s)) (hn : n ≤ c) (hc : c ≤ maxLen) :
    Calls Try.prog 38 #[.agg #[.slice a n c], .int .i64 x, .int .i64 y, .int .i64 z] w fun e w' => e = .panicked thrown ∧ Below w.heap.size w w' := by
  subst hx; subst hy; subst hz
  refine rows_bad a n c _ _ _ w (by omega) (by omega) ?_ hn hc
  rintro ⟨_, h1, _, _, h2⟩
  simp only [Int.toNat_natCast] at h2
  exact hbad ⟨by omega, by omega⟩
def numsA (bs : List UInt8) (S k : Nat) : List Nat := (List.range k).map fun i => num bs (i * S) S
theorem numsA_succ (bs : List UInt8) (S k : Nat) : numsA bs S (k + 1) = numsA bs S k ++ [num bs (k * S) S] := by simp [numsA, List.range_succ]
theorem hasB {w w' : World} {a : Option Addr} {xs : List Value} {B : Nat} (h : Has w a xs) (hb : Below B w w') (ha : ∀ p, a = some p → p.block < B) : Has w' a xs := by
  intro j u hu
  obtain ⟨p, hp, hc⟩ := h j u hu
  refine ⟨p, hp, ?_⟩
  rw [World.cell?_of_block (hb.block _ (by rw [add_block]; exact ha p hp))]
  exact hc
theorem advB {a : Option Addr} {c k B : Nat} (ha : ∀ p, a = some p → p.block < B) : ∀ p, adv a c k = some p → p.block < B := by
  intro p hp
  unfold adv at hp
  split at hp
  · exact ha p hp
  · cases a with
    | none => cases hp
    | some q => cases hp; rw [add_block]; exact ha q rfl
def ApRel (B g fmt : Nat) (ps : List PartL) (ns : List Nat) (W : World) (N : Nat) (bs : List UInt8) (S : Nat) (i : Value) (wr : World) : Prop :=
  ∃ k, k ≤ N ∧ i = .int .i64 (k : Nat) ∧ TabIs B g fmt ps (ns ++ numsA bs S k) wr ∧ LKeep B g W wr
theorem TabIs.base {B g fmt : Nat} {ps : List PartL} {ns : List Nat} {w : World} (h : TabIs B g fmt ps ns w) : g < w.heap.size := by
  obtain ⟨_, _, _, _, h0, _⟩ := h.is
  exact (Array.getElem?_eq_some_iff.1 h0).1
def ApOk (ps : List PartL) (f l S n : Nat) : Prop := CanAdd ps (f : Nat) (l : Nat) ∧ (l - f + 1) * S ≤ n
set_option maxRecDepth 100000 in
set_option maxHeartbeats 3200000 in
theorem apart_any (B g fmt : Nat) (ps : List PartL) (ns : List Nat) (f l S : Nat) (zf zl zs : Int) (hzf : zf = (f : Nat)) (hzl : zl = (l : Nat)) (hzs : zs = (S : Nat)) (a : Option Addr) (n c : Nat) (bs : List UInt8) (w : World) (h : TabIs B g fmt ps ns w) (hB : B ≤ g) (hl : ps.length ≤ 1000000) (hn : ns.length ≤ 90000000)
    (hl7 : l ≤ 70000) (hS : S = 1 ∨ S = 2 ∨ S = 4) (hh : Has w a (bytesV bs)) (hbl : bs.length = n) (hnc : n ≤ c) (hc : c ≤ maxLen) (hab : ∀ p, a = some p → p.block < B) :
    Calls Try.prog 29 #[.pointer (some ⟨g, 0, none⟩), .int .i64 zf, .int .i64 zl, .agg #[.slice a n c], .int .i64 zs] w fun e w' => ((ApOk ps f l S n ∧ e = .returned (.tuple #[]) ∧ TabIs B g fmt (ps ++ [⟨f, l, ns.length, 1⟩]) (ns ++ numsA bs S (l - f + 1)) w') ∨ (¬ ApOk ps f l S n ∧ e = .panicked thrown)) ∧ LKeep B g w w' := by
  have hAC := allocC
  have hAF := allocF
  subst hzf hzl hzs
  have hg0 := h.base
  have hBw : B ≤ w.heap.size := by omega
  by_cases hca : CanAdd ps (f : Nat) (l : Nat)
  case neg =>
    have HA := Lib.hid (fun (W : World) (hW : Below w.heap.size w W) => add_bad B g fmt ps ns (f : Nat) (l : Nat) 1 W (h.below hW) hl hca)
    have HC := Lib.hid hca
    clear h hca hh
    go_enter Try.func29, Try.ntmps29
    go_wp2_with (first | (go_at_call 37; (with_reducible refine (HA.out _ (by exact (by repeat (first | with_reducible exact brefl _ | with_reducible assumption | (with_reducible refine bset ?_ (by first | (simp; done) | (simp; omega)) _) | with_reducible refine balloc ?_ _ | with_reducible refine bdrew ?_ _ | with_reducible refine bdrew1 ?_ | with_reducible refine bthen ?_ (by assumption) | with_reducible refine Below.trans ?_ (by assumption) | exact brefl _ | assumption | refine balloc ?_ _ | refine bdrew ?_ _ | refine bdrew1 ?_ | refine bthen ?_ (by assumption) | refine Below.trans ?_ (by assumption) | (refine bset ?_ (by first | (simp; done) | (simp; omega)) _))))).mono ?_); rintro e w1 ⟨rfl, hb1⟩; have h1c := bc hb1; have h1f := bf hb1; have h1z := hb1.size; try simp only [World.size_alloc, World.size_drew] at h1z))
    have hbw : Below w.heap.size w w1 := (by repeat (first | with_reducible exact brefl _ | with_reducible assumption | (with_reducible refine bset ?_ (by first | (simp; done) | (simp; omega)) _) | with_reducible refine balloc ?_ _ | with_reducible refine bdrew ?_ _ | with_reducible refine bdrew1 ?_ | with_reducible refine bthen ?_ (by assumption) | with_reducible refine Below.trans ?_ (by assumption) | exact brefl _ | assumption | refine balloc ?_ _ | refine bdrew ?_ _ | refine bdrew1 ?_ | refine bthen ?_ (by assumption) | refine Below.trans ?_ (by assumption) | (refine bset ?_ (by first | (simp; done) | (simp; omega)) _)))
    exact ⟨rfl, .inr ⟨fun hx => HC.out hx.1, rfl⟩, LKeep.of hbw hBw⟩
  have hfl : f ≤ l := by have := hca.1; omega
  have HA := Lib.hid (fun (W : World) (hW : Below w.heap.size w W) => add_ok B g fmt ps ns f l 1 (f : Nat) (l : Nat) 1 rfl rfl rfl W (h.below hW) hB (by omega) (by omega) hca)
  have HC := Lib.hid hca
  have HH := Lib.hid hh
  have HBL := Lib.hid hbl
  have HS := Lib.hid hS
  have HAB := Lib.hid hab
  obtain ⟨N, hN⟩ : ∃ N, N = l - f + 1 := ⟨_, rfl⟩
  have hNI : (l : Int) - (f : Int) + 1 = (N : Int) := by omega
  have HN := Lib.hid hN
  have hN7 : N ≤ 70001 := by omega
  have hcm := hc
  unfold maxLen at hcm
  have hS1 : 1 ≤ S ∧ S ≤ 4 := by rcases hS with rfl | rfl | rfl <;> decide
  obtain ⟨hS1, hS4⟩ := hS1
  clear h hca hh hbl hS hN hab
  go_enter Try.func29, Try.ntmps29
  go_wp2_with fail
  refine (HA.out _ (by exact (by repeat (first | with_reducible exact brefl _ | with_reducible assumption | (with_reducible refine bset ?_ (by first | (simp; done) | (simp; omega)) _) | with_reducible refine balloc ?_ _ | with_reducible refine bdrew ?_ _ | with_reducible refine bdrew1 ?_ | with_reducible refine bthen ?_ (by assumption) | with_reducible refine Below.trans ?_ (by assumption) | exact brefl _ | assumption | refine balloc ?_ _ | refine bdrew ?_ _ | refine bdrew1 ?_ | refine bthen ?_ (by assumption) | refine Below.trans ?_ (by assumption) | (refine bset ?_ (by first | (simp; done) | (simp; omega)) _))))).mono ?_
  rintro e w1 ⟨rfl, ht, hk1⟩
  have c8 := (hk1.kept w.heap.size _ _ _ (heap_new w (.slice a n c) 43) (by decide) (by decide) (by omega)).trans (heap_new w (.slice a n c) 43)
  have hK1 : LKeep B g w w1 := (LKeep.of (balloc (brefl w) _) hBw).trans hk1
  have hz1 := hk1.size
  simp only [World.size_alloc] at hz1
  have HT := Lib.hid ht
  have HK1 := Lib.hid hK1
  have d8 := cell_of_heap c8 0
  have f8 := froz_of_heap c8 0
  simp only [List.getElem?_toArray, List.getElem?_cons_zero] at d8
  have hg8 : w.heap.size < w1.heap.size := by omega
  clear ht hk1 hK1 HA c8
  have hdiv : (N ≤ (n - 0) / S) ↔ N * S ≤ n := by rw [Nat.le_div_iff_mul_le (by omega)]; omega
  by_cases hfit : N * S ≤ n
  case neg =>
    have HRB := Lib.hid (fun W => rows_zc a n c 0 N S 0 (N : Int) (S : Int) rfl rfl rfl W (by omega) (by omega) (by omega) (fun hx => hfit (hdiv.1 hx.2)) hnc hc)
    have HNF := Lib.hid (show ¬ ApOk ps f l S n from fun hx => hfit (by rw [HN.out]; exact hx.2))
    clear hdiv hfit
    go_wp2_with (first | (go_at_call 38; (with_reducible refine (HRB.out _).mono ?_); rintro e w2 ⟨rfl, hb2⟩; have h2c := bc hb2; have h2f := bf hb2; have h2z := hb2.size; try simp only [World.size_alloc, World.size_drew] at h2z))
    exact ⟨rfl, .inr ⟨HNF.out, rfl⟩, HK1.out.trans (LKeep.of hb2 (by omega))⟩
  have HRW := Lib.hid (fun W => rows_z a n c 0 N S (N * S) 0 (N : Int) (S : Int) rfl rfl rfl W rfl (by omega) (.inr (hdiv.2 hfit)) (by omega) (by omega) hnc hc)
  have HOK := Lib.hid (show ApOk ps f l S n from ⟨HC.out, by rw [← HN.out]; exact hfit⟩)
  clear hdiv
  go_wp2_with (first | (go_at_call 38; (with_reducible refine (HRW.out _).mono ?_); rintro e w2 ⟨rfl, hb2⟩; have h2c := bc hb2; have h2f := bf hb2; have h2z := hb2.size; try simp only [World.size_alloc, World.size_drew] at h2z))
  obtain ⟨W, hW⟩ : ∃ W, W = w2.alloc (Obj.cells #[.slice (adv a c 0) (N * S) c] 43) := ⟨_, rfl⟩
  have c11 : W.heap[w2.heap.size]? = some (.cells #[.slice (adv a c 0) (N * S) c] 43 (0, 0)) := by rw [hW]; exact heap_new _ _ _
  have hb12 : Below w1.heap.size w1 W := by rw [hW]; exact (by repeat (first | with_reducible exact brefl _ | with_reducible assumption | (with_reducible refine bset ?_ (by first | (simp; done) | (simp; omega)) _) | with_reducible refine balloc ?_ _ | with_reducible refine bdrew ?_ _ | with_reducible refine bdrew1 ?_ | with_reducible refine bthen ?_ (by assumption) | with_reducible refine Below.trans ?_ (by assumption) | exact brefl _ | assumption | refine balloc ?_ _ | refine bdrew ?_ _ | refine bdrew1 ?_ | refine bthen ?_ (by assumption) | refine Below.trans ?_ (by assumption) | (refine bset ?_ (by first | (simp; done) | (simp; omega)) _)))
  have HT2 := Lib.hid (HT.out.below hb12)
  have HK2 := Lib.hid (HK1.out.trans (LKeep.of hb12 (by omega)))
  have hg11 : w2.heap.size ≠ g := by have := HT.out.base; omega
  have HHW := Lib.hid (hasB HH.out HK2.out.below HAB.out)
  have HC11 := Lib.hid c11
  rw [← hW]
  clear hW c11 hb12 HT HK1 d8 f8 h2c h2f hb2 HRW
  generalize hp11 : w2.heap.size = g11 at *
  clear hp11
  generalize hps : ps ++ [⟨f, l, ns.length, 1⟩] = ps' at *
  have hpl : ps'.length ≤ 1000001 := by rw [← hps]; simp; omega
  have HPS := Lib.hid hps
  clear hps
  have HB := Lib.hid hB
  have HNS := Lib.hid hn
  go_loopw [26] (ApRel B g fmt ps' ns W N bs S) (fun i _ => N - (intOf i).toNat)
  case atStart => exact ⟨0, Nat.zero_le _, rfl, by simpa [numsA] using HT2.out, LKeep.refl _ _ _⟩
  case round =>
    obtain ⟨k, hkN, rfl, htk, hkk⟩ := hrel
    have HKK := Lib.hid hkk
    by_cases hlt : k < N
    · obtain ⟨ap, cp, an, cn, h0, h1, h2⟩ := htk.is
      have hgw := (Array.getElem?_eq_some_iff.1 h0).1
      have h11 := (hkk.kept g11 _ _ _ HC11.out (by decide) (by decide) hg11).trans HC11.out
      have h11l := (Array.getElem?_eq_some_iff.1 h11).1
      have r2 := cell_of_heap h0 2
      have rf := fun o => froz_of_heap h0 o
      have r11 := cell_of_heap h11 0
      simp only [List.getElem?_toArray, List.getElem?_cons_zero, List.getElem?_cons_succ] at r2 r11
      have H1 := Lib.hid h1
      have H2 := Lib.hid h2
      have hq9 : k * S + S ≤ N * S := by rw [← Nat.succ_mul]; exact Nat.mul_le_mul_right _ hlt
      obtain ⟨q, hq⟩ : ∃ q, q = k * S := ⟨_, rfl⟩
      rw [← hq] at hq9
      have hq1 : IntKind.i64.wrap ((k : Int) * (S : Int)) = (q : Int) := by rw [← Int.natCast_mul, ← hq]; exact IntWalk.i64_in _ (by omega)
      have hq2 : wrap64 ((k : Int) * (S : Int)) = (q : Int) := by rw [← IntWalk.i64_left]; exact hq1
      obtain ⟨p, hp⟩ : ∃ p, p = N * S := ⟨_, rfl⟩
      have hbt := ((hasB HHW.out hkk.below HAB.out).adv c 0 (by rw [bytesV_length, HBL.out]; exact hnc)).take (N * S)
      rw [bytesV_drop, bytesV_take, List.drop_zero] at hbt
      have hT4 : (bs.take (N * S)).length = N * S := by rw [List.length_take, HBL.out]; omega
      have hU := number_z (adv a c 0) (N * S) c q S (q : Int) (S : Int) rfl rfl (bs.take (N * S)) wr.drew (hbt.below (bdrew1 (brefl wr))) hT4 HS.out (by omega) (by omega) (by unfold maxLen; omega)
      rw [num_takeS bs (N * S) q S hq9] at hU
      have HU := Lib.hid hU
      have HNU := Lib.hid (show ns ++ numsA bs S (k + 1) = (ns ++ numsA bs S k) ++ [num bs q S] by rw [numsA_succ, hq, List.append_assoc])
      have hML : (ns ++ numsA bs S k).length ≤ 95000000 := by rw [List.length_append]; simp [numsA]; have := HNS.out; omega
      have HLT := Lib.hid hlt
      clear hbt hT4 hU hq htk hkk h1 h2
      generalize num bs q S = x at *
      generalize hMM : ns ++ numsA bs S k = nk at *
      generalize hLL : ps'.length = L at *
      generalize hNN : nk.length = M at *
      have HLL := Lib.hid hLL
      have HNN := Lib.hid hNN
      clear hLL hNN hMM
      go_wp2_with fail
      refine wp_region_last (.step 0 (.step 1 (.step 2 (.step 3 (.step 4 (.step 5 (.step 6 (.step 7 (.step 8 (.step 9 (.step 10 (.step 11 (.step 12 (.step 13 (.step 14 (.step 15 .nil)))))))))))))))) 15 (by kernel_rfl) (by kernel_rfl) (by kernel_rfl) (by kernel_rfl) (by kernel_rfl) (by intro _ _ d_ _ _ h_; cases d_ <;> first | exact h_ | (dsimp +zetaDelta only at h_ ⊢; exact h_)) (fun w' => ∃ p : KepE 74 wr, w' = p.val) (kepE_start _ _) ?_
      have hK0_ := fun (p : KepE 74 wr) (o : Nat) => p.is.cell h0 (by decide) o
      have hK1_ := fun (p : KepE 74 wr) (o : Nat) => p.is.cell h11 (by decide) o
      (refine z_quiet (by simp only [List.getElem?_toArray, List.getElem?_cons_succ, List.getElem?_cons_zero]; rfl) (by rfl) (by rfl) (fun K_ hK_ => ?_); go_big_quiet_op; refine hK_ _ ?_; clear hK_ K_)
      (refine z_quiet (by simp only [List.getElem?_toArray, List.getElem?_cons_succ, List.getElem?_cons_zero]; rfl) (by rfl) (by rfl) (fun K_ hK_ => ?_); go_big_quiet_op; refine hK_ _ ?_; clear hK_ K_)
      (refine z_quiet (by simp only [List.getElem?_toArray, List.getElem?_cons_succ, List.getElem?_cons_zero]; rfl) (by rfl) (by rfl) (fun K_ hK_ => ?_); go_big_quiet_op; refine hK_ _ ?_; clear hK_ K_)
      (refine z_quiet (by simp only [List.getElem?_toArray, List.getElem?_cons_succ, List.getElem?_cons_zero]; rfl) (by rfl) (by rfl) (fun K_ hK_ => ?_); go_big_quiet_op; refine hK_ _ ?_; clear hK_ K_)
      (refine z_quiet (by simp only [List.getElem?_toArray, List.getElem?_cons_succ, List.getElem?_cons_zero]; rfl) (by rfl) (by rfl) (fun K_ hK_ => ?_); go_big_quiet_op; refine hK_ _ ?_; clear hK_ K_)
      (refine z_quiet (by simp only [List.getElem?_toArray, List.getElem?_cons_succ, List.getElem?_cons_zero]; rfl) (by rfl) (by rfl) (fun K_ hK_ => ?_); go_big_quiet_op; refine hK_ _ ?_; clear hK_ K_)
      (refine z_quiet (by simp only [List.getElem?_toArray, List.getElem?_cons_succ, List.getElem?_cons_zero]; rfl) (by rfl) (by rfl) (fun K_ hK_ => ?_); go_big_quiet_op; refine hK_ _ ?_; clear hK_ K_)
      (refine z_quiet (by simp only [List.getElem?_toArray, List.getElem?_cons_succ, List.getElem?_cons_zero]; rfl) (by rfl) (by rfl) (fun K_ hK_ => ?_); go_big_quiet_op; refine hK_ _ ?_; clear hK_ K_)
      (refine z_quiet (by simp only [List.getElem?_toArray, List.getElem?_cons_succ, List.getElem?_cons_zero]; rfl) (by rfl) (by rfl) (fun K_ hK_ => ?_); go_big_quiet_op; refine hK_ _ ?_; clear hK_ K_)
      (refine z_quiet (by simp only [List.getElem?_toArray, List.getElem?_cons_succ, List.getElem?_cons_zero]; rfl) (by rfl) (by rfl) (fun K_ hK_ => ?_); go_big_quiet_op; refine hK_ _ ?_; clear hK_ K_)
      (refine z_run (by simp only [List.getElem?_toArray, List.getElem?_cons_succ, List.getElem?_cons_zero]; rfl) (by rfl) (by rfl) (fun K_ hK_ => ?_); have HK_ := Lib.hid hK_; clear hK_; (first | ((refine wpAppO _ _ 62 rfl B 74 (.int .u32 0) 1 4 Try.underlying62 u32_info rfl (by decide) _ M (u32V nk) rfl (owns_below H2.out (bthen (bdrew1 (brefl wr)) (balloc hbu _)) (Nat.le_refl _)) ⟨wu.heap.size, 0, none⟩ 1 1 [.int .u32 (x : Nat)] rfl rfl (has_alloc _ _ _) (fun u hu => by simp at hu; subst hu; rfl) (by unfold maxLen; omega) (by omega) (by simp; omega) ?_; intro a3 c3 w3 hown3 t31 t32 t33 hb3 hg3; have hk3 := KeptE.grown (owns_below H2.out (bthen (bdrew1 (brefl wr)) (balloc hbu _)) (Nat.le_refl _)) hg3; have hkw : KeptE 74 wr w3 := ((KeptE.below (bdrew1 (brefl wr))).trans (KeptE.below hbu)).trans ((KeptE.below (balloc (brefl wu) _)).trans hk3); have hw3 := (hkw.2 g _ _ _ h0 (by decide)).trans h0; have s2 := cell_of_heap hw3 2; have sf := fun o => froz_of_heap hw3 o; have HO3 := Lib.hid hown3; have HB3 := Lib.hid hb3; have HK3 := Lib.hid hkw; have hz3 := hg3.size; clear hown3 t31 t32 t33 hb3 hg3; dsimp only [Act.put]; simp only [List.setIfInBounds_toArray, List.set_cons_succ, List.set_cons_zero])) | (go_wp2_with ((go_at_call 32; (with_reducible refine HU.out.mono ?_); rintro r wu ⟨rfl, hbu⟩; have huz := hbu.size; simp only [World.size_drew] at huz)))); refine HK_.out _ _ (kepE_of (by repeat (first | exact KeptE.refl _ _ | assumption | refine KeptE.trans ?_ (KeptE.below (bdrew1 (brefl _))) | refine KeptE.trans ?_ (KeptE.below (balloc (brefl _) _)) | refine KeptE.trans ?_ (KeptE.below (by assumption)) | refine KeptE.trans ?_ (by assumption)))) ?_; clear HK_)
      (refine z_run (by simp only [List.getElem?_toArray, List.getElem?_cons_succ, List.getElem?_cons_zero]; rfl) (by rfl) (by rfl) (fun K_ hK_ => ?_); have HK_ := Lib.hid hK_; clear hK_; (first | ((refine wpAppO _ _ 62 rfl B 74 (.int .u32 0) 1 4 Try.underlying62 u32_info rfl (by decide) _ M (u32V nk) rfl (owns_below H2.out (bthen (bdrew1 (brefl wr)) (balloc hbu _)) (Nat.le_refl _)) ⟨wu.heap.size, 0, none⟩ 1 1 [.int .u32 (x : Nat)] rfl rfl (has_alloc _ _ _) (fun u hu => by simp at hu; subst hu; rfl) (by unfold maxLen; omega) (by omega) (by simp; omega) ?_; intro a3 c3 w3 hown3 t31 t32 t33 hb3 hg3; have hk3 := KeptE.grown (owns_below H2.out (bthen (bdrew1 (brefl wr)) (balloc hbu _)) (Nat.le_refl _)) hg3; have hkw : KeptE 74 wr w3 := ((KeptE.below (bdrew1 (brefl wr))).trans (KeptE.below hbu)).trans ((KeptE.below (balloc (brefl wu) _)).trans hk3); have hw3 := (hkw.2 g _ _ _ h0 (by decide)).trans h0; have s2 := cell_of_heap hw3 2; have sf := fun o => froz_of_heap hw3 o; have HO3 := Lib.hid hown3; have HB3 := Lib.hid hb3; have HK3 := Lib.hid hkw; have hz3 := hg3.size; clear hown3 t31 t32 t33 hb3 hg3; dsimp only [Act.put]; simp only [List.setIfInBounds_toArray, List.set_cons_succ, List.set_cons_zero])) | (go_wp2_with ((go_at_call 32; (with_reducible refine HU.out.mono ?_); rintro r wu ⟨rfl, hbu⟩; have huz := hbu.size; simp only [World.size_drew] at huz)))); refine HK_.out _ _ (kepE_of (by repeat (first | exact KeptE.refl _ _ | assumption | refine KeptE.trans ?_ (KeptE.below (bdrew1 (brefl _))) | refine KeptE.trans ?_ (KeptE.below (balloc (brefl _) _)) | refine KeptE.trans ?_ (KeptE.below (by assumption)) | refine KeptE.trans ?_ (by assumption)))) ?_; clear HK_)
      (refine z_run (by simp only [List.getElem?_toArray, List.getElem?_cons_succ, List.getElem?_cons_zero]; rfl) (by rfl) (by rfl) (fun K_ hK_ => ?_); have HK_ := Lib.hid hK_; clear hK_; (first | ((refine wpAppO _ _ 62 rfl B 74 (.int .u32 0) 1 4 Try.underlying62 u32_info rfl (by decide) _ M (u32V nk) rfl (owns_below H2.out (bthen (bdrew1 (brefl wr)) (balloc hbu _)) (Nat.le_refl _)) ⟨wu.heap.size, 0, none⟩ 1 1 [.int .u32 (x : Nat)] rfl rfl (has_alloc _ _ _) (fun u hu => by simp at hu; subst hu; rfl) (by unfold maxLen; omega) (by omega) (by simp; omega) ?_; intro a3 c3 w3 hown3 t31 t32 t33 hb3 hg3; have hk3 := KeptE.grown (owns_below H2.out (bthen (bdrew1 (brefl wr)) (balloc hbu _)) (Nat.le_refl _)) hg3; have hkw : KeptE 74 wr w3 := ((KeptE.below (bdrew1 (brefl wr))).trans (KeptE.below hbu)).trans ((KeptE.below (balloc (brefl wu) _)).trans hk3); have hw3 := (hkw.2 g _ _ _ h0 (by decide)).trans h0; have s2 := cell_of_heap hw3 2; have sf := fun o => froz_of_heap hw3 o; have HO3 := Lib.hid hown3; have HB3 := Lib.hid hb3; have HK3 := Lib.hid hkw; have hz3 := hg3.size; clear hown3 t31 t32 t33 hb3 hg3; dsimp only [Act.put]; simp only [List.setIfInBounds_toArray, List.set_cons_succ, List.set_cons_zero])) | (go_wp2_with ((go_at_call 32; (with_reducible refine HU.out.mono ?_); rintro r wu ⟨rfl, hbu⟩; have huz := hbu.size; simp only [World.size_drew] at huz)))); refine HK_.out _ _ (kepE_of (by repeat (first | exact KeptE.refl _ _ | assumption | refine KeptE.trans ?_ (KeptE.below (bdrew1 (brefl _))) | refine KeptE.trans ?_ (KeptE.below (balloc (brefl _) _)) | refine KeptE.trans ?_ (KeptE.below (by assumption)) | refine KeptE.trans ?_ (by assumption)))) ?_; clear HK_)
      (refine z_quiet (by simp only [List.getElem?_toArray, List.getElem?_cons_succ, List.getElem?_cons_zero]; rfl) (by rfl) (by rfl) (fun K_ hK_ => ?_); go_big_quiet_op; refine hK_ _ ?_; clear hK_ K_)
      (refine z_quiet (by simp only [List.getElem?_toArray, List.getElem?_cons_succ, List.getElem?_cons_zero]; rfl) (by rfl) (by rfl) (fun K_ hK_ => ?_); go_big_quiet_op; refine hK_ _ ?_; clear hK_ K_)
      (refine z_last (by simp only [List.getElem?_toArray, List.getElem?_cons_succ, List.getElem?_cons_zero]; rfl) (by rfl) (by rfl) (by rfl) (fun K_ hK_ => ?_); have HK_ := Lib.hid hK_; clear hK_; (first | ((refine wpAppO _ _ 62 rfl B 74 (.int .u32 0) 1 4 Try.underlying62 u32_info rfl (by decide) _ M (u32V nk) rfl (owns_below H2.out (bthen (bdrew1 (brefl wr)) (balloc hbu _)) (Nat.le_refl _)) ⟨wu.heap.size, 0, none⟩ 1 1 [.int .u32 (x : Nat)] rfl rfl (has_alloc _ _ _) (fun u hu => by simp at hu; subst hu; rfl) (by unfold maxLen; omega) (by omega) (by simp; omega) ?_; intro a3 c3 w3 hown3 t31 t32 t33 hb3 hg3; have hk3 := KeptE.grown (owns_below H2.out (bthen (bdrew1 (brefl wr)) (balloc hbu _)) (Nat.le_refl _)) hg3; have hkw : KeptE 74 wr w3 := ((KeptE.below (bdrew1 (brefl wr))).trans (KeptE.below hbu)).trans ((KeptE.below (balloc (brefl wu) _)).trans hk3); have hw3 := (hkw.2 g _ _ _ h0 (by decide)).trans h0; have s2 := cell_of_heap hw3 2; have sf := fun o => froz_of_heap hw3 o; have HO3 := Lib.hid hown3; have HB3 := Lib.hid hb3; have HK3 := Lib.hid hkw; have hz3 := hg3.size; clear hown3 t31 t32 t33 hb3 hg3; dsimp only [Act.put]; simp only [List.setIfInBounds_toArray, List.set_cons_succ, List.set_cons_zero])) | (go_wp2_with ((go_at_call 32; (with_reducible refine HU.out.mono ?_); rintro r wu ⟨rfl, hbu⟩; have huz := hbu.size; simp only [World.size_drew] at huz)))); refine HK_.out _ _ ?_; clear HK_)
      refine z_nil ?_
      clear hK0_ hK1_
      obtain rfl := HLL.out
      obtain rfl := HNN.out
      have hbB : Below B wr w3 := (((Below.refl B wr).drew.trans (hbu.mono (by simp; omega))).alloc (by omega) _).trans HB3.out
      have hfin := num_tail h0 HO3.out H1.out HK3.out HB.out hbB
      rw [← HNU.out] at hfin
      have HF1 := Lib.hid hfin.1
      have HF2 := Lib.hid (HKK.out.trans hfin.2)
      clear hfin
      obtain ⟨X, hX⟩ : ∃ X, X = w3.setCell ⟨g, 2, none⟩ (.slice a3 (nk.length + 1) c3) := ⟨_, rfl⟩
      rw [← hX] at HF1 HF2 ⊢
      clear hX
      go_wp2_with fail
      go_roundw
      case rel => exact ⟨k + 1, HLT.out, by go_num, HF1.out, HF2.out⟩
      case measure => simp [intOf]; have := HLT.out; omega
    · obtain rfl : k = N := by omega
      clear hkk
      go_wp2_with fail
      refine bodyPost_end (v := .tuple #[]) (by simp [results, Try.results29, go_sem]; try rfl) rfl ⟨.inl ⟨HOK.out, rfl, ?_⟩, HK2.out.trans HKK.out⟩
      rw [HPS.out, ← HN.out]
      exact htk
end Go.Proofs.Ythjnpfhcjacibaa
