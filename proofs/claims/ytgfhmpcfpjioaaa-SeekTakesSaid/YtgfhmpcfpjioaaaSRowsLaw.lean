
/- The walk of SeekRows. Condition: as many bytes as the slice says; numbers within 64 bits. -/
import Derived.Test.YtgfhmpcfpjioaaaSRef
namespace Go.Proofs.Ytgfhmpcfpjioaaa
open Go.RowKit

def SRowsRel (w : World) (M : Nat) (i : Value) (wr : World) : Prop := ∃ k : Nat, k ≤ M ∧ i = .int .i64 (k : Nat) ∧ Below w.heap.size w wr

theorem sread_bad (a : Option Addr) (n c : Nat) (bs : List UInt8) (k need keys : Int) (w : World) (h : Has w a (bytesV bs)) (hl : bs.length = n) (hn : n ≤ c) (hc : c ≤ maxLen) (hk : -9223372036854775808 ≤ k ∧ k ≤ 9223372036854775807)
    (hne : -9223372036854775808 ≤ need ∧ need ≤ 9223372036854775807) (hke : -9223372036854775808 ≤ keys ∧ keys ≤ 9223372036854775807) (hb : badArgs need keys) :
    Calls Try.prog 15 #[.slice a n c, .int .i64 k, .int .i64 need, .int .i64 keys] w fun e w' => e = .returned (.tuple #[.slice none 0 0, .int .i64 1]) ∧ Below w.heap.size w w' := by
  refine (sread_any a n c bs k need keys w h hl hn hc hk hne hke).mono ?_
  rintro e w' ⟨(⟨_, he⟩ | ⟨hx, _⟩ | ⟨hx, _⟩), hb'⟩
  · exact ⟨he, hb'⟩
  · exact absurd hb hx
  · exact absurd hb hx
theorem sread_none (a : Option Addr) (n c : Nat) (bs : List UInt8) (k : Int) (need keys : Nat) (w : World) (h : Has w a (bytesV bs)) (hl : bs.length = n) (hn : n ≤ c) (hc : c ≤ maxLen) (hk : -9223372036854775808 ≤ k ∧ k ≤ 9223372036854775807)
    (h2 : 2 ≤ need) (hn63 : need ≤ 9223372036854775807) (h1 : 1 ≤ keys) (hkn : 2 * keys ≤ need) (hno : ∀ j : Nat, k = (j : Nat) → ¬ skOk bs j need) :
    Calls Try.prog 15 #[.slice a n c, .int .i64 k, .int .i64 (need : Nat), .int .i64 (keys : Nat)] w fun e w' => e = .returned (.tuple #[.slice none 0 0, .int .i64 2]) ∧ Below w.heap.size w w' := by
  refine (sread_any a n c bs k need keys w h hl hn hc hk (by omega) (by omega)).mono ?_
  rintro e w' ⟨(⟨hx, he⟩ | ⟨_, _, he⟩ | ⟨_, j, g, vs, hj, hok, _⟩), hb'⟩
  · unfold badArgs at hx; omega
  · exact ⟨he, hb'⟩
  · exact absurd hok (hno j hj)
theorem sread_some (a : Option Addr) (n c : Nat) (bs : List UInt8) (j need keys : Nat) (w : World) (h : Has w a (bytesV bs)) (hl : bs.length = n) (hn : n ≤ c) (hc : c ≤ maxLen)
    (h2 : 2 ≤ need) (hn63 : need ≤ 9223372036854775807) (h1 : 1 ≤ keys) (hkn : 2 * keys ≤ need) (hok : skOk bs j need) :
    Calls Try.prog 15 #[.slice a n c, .int .i64 (j : Nat), .int .i64 (need : Nat), .int .i64 (keys : Nat)] w fun e w' => ∃ (g : Nat) (vs : List Value), e = .returned (.tuple #[.slice (some ⟨g, 0, none⟩) (skM bs j keys) (skM bs j keys), .int .i64 0]) ∧ w'.ownsRow w.heap.size 22 1 (.slice (some ⟨g, 0, none⟩) (skM bs j keys) (skM bs j keys)) (skM bs j keys) vs ∧ RowsOwn w.heap.size bs j (skS bs j) vs w' ∧ Below w.heap.size w w' := by
  have hm : c ≤ 9223372036854775807 := hc
  have := hok.head
  refine (sread_any a n c bs j need keys w h hl hn hc (by omega) (by omega) (by omega)).mono ?_
  rintro e w' ⟨(⟨hx, he⟩ | ⟨_, hno, he⟩ | ⟨_, i, g, vs, hj, _, he, h3, h4⟩), hb'⟩
  · unfold badArgs at hx; omega
  · exact absurd hok (hno j rfl)
  · obtain rfl : j = i := by omega
    exact ⟨g, vs, he, h3, h4, hb'⟩
theorem sref_none (a : Option Addr) (n c : Nat) (bs : List UInt8) (k : Int) (need keys : Nat) (w : World) (h : Has w a (bytesV bs)) (hl : bs.length = n) (hn : n ≤ c) (hc : c ≤ maxLen) (h20 : n ≤ 2000) (hk : -9223372036854775808 ≤ k ∧ k ≤ 9223372036854775807)
    (h2 : 2 ≤ need) (hn63 : need ≤ 9223372036854775807) (h1 : 1 ≤ keys) (hkn : 2 * keys ≤ need) (hno : ∀ j : Nat, k = (j : Nat) → ¬ skOk bs j need) :
    Calls Try.prog 16 #[.slice a n c, .int .i64 k, .int .i64 (need : Nat), .int .i64 (keys : Nat)] w fun e w' => e = .returned (.tuple #[.slice none 0 0, .int .i64 0, .bool false]) ∧ Below w.heap.size w w' := by
  refine (sref_any a n c bs k need keys w h hl hn hc h20 hk h2 hn63 h1 hkn).mono ?_
  rintro e w' ⟨(⟨j, _, _, hj, hok, _⟩ | ⟨_, he⟩), hb⟩
  · exact absurd hok (hno j hj)
  · exact ⟨he, hb⟩
theorem sref_some (a : Option Addr) (n c : Nat) (bs : List UInt8) (j need keys : Nat) (w : World) (h : Has w a (bytesV bs)) (hl : bs.length = n) (hn : n ≤ c) (hc : c ≤ maxLen) (h20 : n ≤ 2000)
    (h2 : 2 ≤ need) (hn63 : need ≤ 9223372036854775807) (h1 : 1 ≤ keys) (hkn : 2 * keys ≤ need) (hok : skOk bs j need) :
    Calls Try.prog 16 #[.slice a n c, .int .i64 (j : Nat), .int .i64 (need : Nat), .int .i64 (keys : Nat)] w fun e w' => ∃ (a' : Option Addr) (c' : Nat), e = .returned (.tuple #[.slice a' (skM bs j keys) c', .int .i64 (skS bs j : Nat), .bool true]) ∧ Has w' a' (intsV (placesV j (skS bs j) (skM bs j keys))) ∧ skM bs j keys ≤ c' ∧ c' ≤ maxLen ∧ Below w.heap.size w w' := by
  have := hok.head
  refine (sref_any a n c bs j need keys w h hl hn hc h20 (by omega) h2 hn63 h1 hkn).mono ?_
  rintro e w' ⟨(⟨i, a', c', hj, _, he, h3, h4, h5⟩ | ⟨hno, _⟩), hb⟩
  · obtain rfl : j = i := by omega
    exact ⟨a', c', he, h3, h4, h5, hb⟩
  · exact absurd hok (hno j rfl)

set_option maxRecDepth 100000 in
set_option maxHeartbeats 3200000 in
theorem seekRows_walk (a : Option Addr) (n c : Nat) (bs : List UInt8) (k need keys : Int) (w : World) (h : Has w a (bytesV bs)) (hl : bs.length = n) (hn : n ≤ c) (hc : c ≤ maxLen) (_hA : a = none → c = 0) (hk : -9223372036854775808 ≤ k ∧ k ≤ 9223372036854775807)
    (hne : -9223372036854775808 ≤ need ∧ need ≤ 9223372036854775807) (hke : -9223372036854775808 ≤ keys ∧ keys ≤ 9223372036854775807) :
    Calls Try.prog 3 #[.slice a n c, .int .i64 k, .agg #[.int .i64 need, .int .i64 keys]] w fun e w' => e = .returned (.bool true) ∧ Below w.heap.size w w' := by
  have hAC := allocC
  have hAF := allocF
  by_cases hbig : 2000 < n
  · clear h hl hk hne hke
    unfold maxLen at hc
    go_enter Try.func3, Try.ntmps3
    go_wp2_with (first | (go_at_call 14; refine (speaks5_any _).mono ?_; rintro e w1 ⟨rfl, hb1⟩; have h1c := bc hb1; have h1f := bf hb1; have h1z := hb1.size; try simp only [World.size_alloc, World.size_drew] at h1z))
    go_ret
    exact ⟨rfl, (by repeat (first | exact brefl _ | assumption | refine balloc ?_ _ | refine bdrew ?_ _ | refine bdrew1 ?_ | refine bthen ?_ (by assumption) | refine Below.trans ?_ (by assumption) | (refine bset ?_ (by first | (simp; done) | (simp; omega)) _)))⟩
  have HH := Lib.hid h
  have HL := Lib.hid hl
  have HK := Lib.hid hk
  have HNE := Lib.hid hne
  have HKE := Lib.hid hke
  obtain ⟨hn1, hn2⟩ := hne
  obtain ⟨hk1, hk2⟩ := hke
  clear h hl hk
  go_enter Try.func3, Try.ntmps3
  go_wp2_with (first | (go_at_call 14; refine (speaks5_any _).mono ?_; rintro e w1 ⟨rfl, hb1⟩; have h1c := bc hb1; have h1f := bf hb1; have h1z := hb1.size; try simp only [World.size_alloc, World.size_drew] at h1z))
  have c0 : w1.cell? ⟨w.heap.size, 0, none⟩ = some (.int .i64 need) := by rw [h1c, if_pos (by simp)]; simp [hAC]
  have c1 : w1.cell? ⟨w.heap.size, 1, none⟩ = some (.int .i64 keys) := by rw [h1c, if_pos (by simp)]; simp [hAC]
  have hl1 : w.heap.size < w1.heap.size := by omega
  have HB1 := Lib.hid (show Below w.heap.size w w1 from (by repeat (first | exact brefl _ | assumption | refine balloc ?_ _ | refine bdrew ?_ _ | refine bdrew1 ?_ | refine bthen ?_ (by assumption) | refine Below.trans ?_ (by assumption) | (refine bset ?_ (by first | (simp; done) | (simp; omega)) _))))
  clear h1c h1f hb1
  refine wp_region_tree (.step 0 (.step 1 (.step 2 (.step 3 (.step 4 (.step 5 .nil)))))) (by kernel_rfl) (by kernel_rfl) (by kernel_rfl) (by kernel_rfl) (by intro _ _ d_ _ _ h_; cases d_ <;> first | exact h_ | (dsimp +zetaDelta only at h_ ⊢; exact h_)) (fun w' => ∃ p : Wld w1 [], w' = p.val) (wld_start _ _) ?_
  have hG_ := @wldC w1
  (refine tree_quiet (by simp only [List.getElem?_toArray, List.getElem?_cons_succ, List.getElem?_cons_zero]; rfl) (by rfl) (by rfl) (fun K_ hK_ => ?_); go_big_quiet_op; refine hK_ _ ?_; clear hK_ K_)
  (refine tree_quiet (by simp only [List.getElem?_toArray, List.getElem?_cons_succ, List.getElem?_cons_zero]; rfl) (by rfl) (by rfl) (fun K_ hK_ => ?_); go_big_quiet_op; refine hK_ _ ?_; clear hK_ K_)
  (refine tree_quiet (by simp only [List.getElem?_toArray, List.getElem?_cons_succ, List.getElem?_cons_zero]; rfl) (by rfl) (by rfl) (fun K_ hK_ => ?_); go_big_quiet_op; refine hK_ _ ?_; clear hK_ K_)
  (refine tree_quiet (by simp only [List.getElem?_toArray, List.getElem?_cons_succ, List.getElem?_cons_zero]; rfl) (by rfl) (by rfl) (fun K_ hK_ => ?_); go_big_quiet_op; refine hK_ _ ?_; clear hK_ K_)
  (refine tree_quiet (by simp only [List.getElem?_toArray, List.getElem?_cons_succ, List.getElem?_cons_zero]; rfl) (by rfl) (by rfl) (fun K_ hK_ => ?_); go_big_quiet_op; refine hK_ _ ?_; clear hK_ K_)
  (refine tree_quiet (by simp only [List.getElem?_toArray, List.getElem?_cons_succ, List.getElem?_cons_zero]; rfl) (by rfl) (by rfl) (fun K_ hK_ => ?_); go_big_quiet_op; refine hK_ _ ?_; clear hK_ K_)
  refine tree_nil ?_
  clear hG_
  have HHD := Lib.hid (HH.out.below (HB1.out.trans (bdrew1 (brefl w1) |>.mono (by omega))))
  have HBD := Lib.hid (show Below w.heap.size w w1.drew from HB1.out.drew)
  generalize w1.drew = wd at *
  have hwd := HBD.out.size
  clear c0 c1 HB1
  by_cases hb1 : need < 2
  · have HRB := Lib.hid (sread_bad a n c bs k need keys wd HHD.out HL.out hn hc HK.out HNE.out HKE.out (.inl hb1))
    go_wp2_with (first | (go_at_call 15; (with_reducible refine (HRB.out).mono ?_); rintro e w2 ⟨rfl, hb2⟩; have h2c := bc hb2; have h2f := bf hb2; have h2z := hb2.size; try simp only [World.size_alloc, World.size_drew] at h2z))
    go_ret
    exact ⟨rfl, HBD.out.trans (hb2.mono hwd)⟩
  by_cases hb2 : keys < 1
  · have HRB := Lib.hid (sread_bad a n c bs k need keys wd HHD.out HL.out hn hc HK.out HNE.out HKE.out (.inr (.inl hb2)))
    go_wp2_with (first | (go_at_call 15; (with_reducible refine (HRB.out).mono ?_); rintro e w3 ⟨rfl, hb3⟩; have h3c := bc hb3; have h3f := bf hb3; have h3z := hb3.size; try simp only [World.size_alloc, World.size_drew] at h3z))
    go_ret
    exact ⟨rfl, HBD.out.trans (hb3.mono hwd)⟩
  by_cases hb3 : need / 2 < keys
  · have HRB := Lib.hid (sread_bad a n c bs k need keys wd HHD.out HL.out hn hc HK.out HNE.out HKE.out (.inr (.inr hb3)))
    have h0 : 2 ≤ need := by omega
    go_wp2_with (first | (go_at_call 15; (with_reducible refine (HRB.out).mono ?_); rintro e w4 ⟨rfl, hb4⟩; have h4c := bc hb4; have h4f := bf hb4; have h4z := hb4.size; try simp only [World.size_alloc, World.size_drew] at h4z))
    go_ret
    exact ⟨rfl, HBD.out.trans (hb4.mono hwd)⟩
  obtain ⟨N, rfl⟩ : ∃ N : Nat, need = N := ⟨need.toNat, by omega⟩
  obtain ⟨K, rfl⟩ : ∃ K : Nat, keys = K := ⟨keys.toNat, by omega⟩
  have h2 : 2 ≤ N := by omega
  have h3 : 1 ≤ K := by omega
  have h4 : 2 * K ≤ N := by omega
  by_cases hok : ∃ j : Nat, k = (j : Nat) ∧ skOk bs j N
  case neg =>
    have hno : ∀ j : Nat, k = (j : Nat) → ¬ skOk bs j N := fun j hj ho => hok ⟨j, hj, ho⟩
    have HRB := Lib.hid (sread_none a n c bs k N K wd HHD.out HL.out hn hc HK.out h2 (by omega) h3 h4 hno)
    have HRF := Lib.hid (fun W hw => sref_none a n c bs k N K W hw HL.out hn hc (by omega) HK.out h2 (by omega) h3 h4 hno)
    clear hok hno
    go_wp2_with (first | (go_at_call 15; (with_reducible refine (HRB.out).mono ?_); rintro e w5 ⟨rfl, hb5⟩; have h5c := bc hb5; have h5f := bf hb5; have h5z := hb5.size; try simp only [World.size_alloc, World.size_drew] at h5z) | (go_at_call 16; (with_reducible refine (HRF.out _ (HHD.out.below hb5)).mono ?_); rintro e w6 ⟨rfl, hb6⟩; have h6c := bc hb6; have h6f := bf hb6; have h6z := hb6.size; try simp only [World.size_alloc, World.size_drew] at h6z))
    go_ret
    exact ⟨rfl, HBD.out.trans ((hb5.trans (hb6.mono hb5.size)).mono hwd)⟩
  obtain ⟨j, rfl, hok⟩ := hok
  have HRB := Lib.hid (sread_some a n c bs j N K wd HHD.out HL.out hn hc h2 (by omega) h3 h4 hok)
  have HRF := Lib.hid (fun W hw => sref_some a n c bs j N K W hw HL.out hn hc (by omega) h2 (by omega) h3 h4 hok)
  obtain ⟨hM, hS, hfit⟩ := stake_len (keys := K) hok
  have HFT := Lib.hid hfit
  have hSn : N ≤ skS bs j := hok.size
  clear hok hfit
  generalize skM bs j K = M at *
  generalize skS bs j = S at *
  go_wp2_with fail
  refine HRB.out.mono ?_
  rintro e w5 ⟨g, vs, rfl, hown, hro, hb5⟩
  have HO := Lib.hid hown
  have HRO := Lib.hid hro
  have HB5 := Lib.hid hb5
  clear hown hro hb5
  go_wp2_with fail
  refine (HRF.out _ (HHD.out.below HB5.out)).mono ?_
  rintro e w6 ⟨a6, c6, rfl, hh6, k61, k62, hb6⟩
  have HH6 := Lib.hid hh6
  have HB6 := Lib.hid (HBD.out.trans ((HB5.out.trans (hb6.mono HB5.out.size)).mono hwd))
  have HO6 := Lib.hid (owns_below HO.out hb6 (Nat.le_refl _))
  have HRO6 := Lib.hid (HRO.out.below hb6)
  clear hh6 hb6 HO HRO
  have hMc : M ≤ 65535 := hM
  go_wp2_with fail
  go_loopw [81] (SRowsRel w6 M) (fun i _ => M - (intOf i).toNat)
  case atStart => exact ⟨0, Nat.zero_le _, rfl, Below.refl _ _⟩
  case round =>
    obtain ⟨i, hi, rfl, hbr⟩ := hrel
    have HBR := Lib.hid hbr
    have HBW := Lib.hid (HB6.out.trans (hbr.mono HB6.out.size))
    clear hbr
    by_cases hlt : i < M
    · obtain ⟨bb, oo, rfl, hlb, hg⟩ := HH6.out.get (by rw [intsV_length, placesV_length]; omega)
      have hcl := (HBR.out.cell (p := ⟨bb, oo + i, none⟩) hlb).trans (hg i _ (intsV_get (placesV j S M) i (by rw [placesV_length]; exact hlt)))
      rw [placesV_get j S M i hlt] at hcl
      have hbl : bb < wr.heap.size := Nat.lt_of_lt_of_le hlb HBR.out.size
      have hft := HFT.out i hlt
      rw [HL.out] at hft
      have hO7 := owns_below HO6.out HBR.out (Nat.le_refl _)
      have hvl : vs.length = M := by simpa using hO7.1
      obtain ⟨a', c', hv, ho', hc1, hc2⟩ := (HRO6.out.below HBR.out) i _ (List.getElem?_eq_getElem (by omega))
      have hrc := (hO7.cellAt i (by omega)).trans (List.getElem?_eq_getElem (by omega))
      rw [hv] at hrc
      have hgr := (hO7.lt _ rfl).2
      obtain ⟨q, hq⟩ : ∃ q, q = j + 10 + i * S := ⟨_, rfl⟩
      rw [← hq] at hcl ho' hft
      have hBL : (rowB bs q S).length = S := by rw [rowB, List.length_take, List.length_drop, HL.out]; omega
      have hB := ((HH.out.below HBW.out).adv c q (by rw [bytesV_length, HL.out]; exact hn)).take S
      rw [bytesV_drop, bytesV_take] at hB
      have hcq : ¬ c = q := by omega
      have hs1 : ∀ p : Wld wr [], (convert 22 9 (.slice a' S c')).run Try.prog p.val = .ok (.string (str (rowB bs q S))) p.val := fun p => run_str Try.underlying22 Try.underlying5 Try.underlying9 (has_wld (has_of_owns ho') p) hBL
      have hs2 : ∀ p : Wld wr [], (convert 22 9 (.slice (Option.map (fun x => x.add q) a) S (c - q))).run Try.prog p.val = .ok (.string (str (rowB bs q S))) p.val := fun p => by
        have := run_str (P := Try.prog) Try.underlying22 Try.underlying5 Try.underlying9 (c := c - q) (has_wld hB p) hBL
        rw [adv, if_neg hcq] at this
        exact this
      have HLT := Lib.hid hlt
      clear hO7 ho' hv hB hg hvl hq
      generalize str (rowB bs q S) = st at *
      go_wp2_with fail
      refine wp_region_tree (.step 0 (.step 1 (.step 2 (.step 3 (.step 4 (.step 5 (.step 6 (.step 7 (.step 8 (.step 9 (.step 10 (.step 11 (.step 12 .nil))))))))))))) (by kernel_rfl) (by kernel_rfl) (by kernel_rfl) (by kernel_rfl) (by intro _ _ d_ _ _ h_; cases d_ <;> first | exact h_ | (dsimp +zetaDelta only at h_ ⊢; exact h_)) (fun w' => ∃ p : Wld wr [], w' = p.val) (wld_start _ _) ?_
      have hG_ := @wldC wr
      (refine tree_quiet (by simp only [List.getElem?_toArray, List.getElem?_cons_succ, List.getElem?_cons_zero]; rfl) (by rfl) (by rfl) (fun K_ hK_ => ?_); go_big_quiet_op; refine hK_ _ ?_; clear hK_ K_)
      (refine tree_quiet (by simp only [List.getElem?_toArray, List.getElem?_cons_succ, List.getElem?_cons_zero]; rfl) (by rfl) (by rfl) (fun K_ hK_ => ?_); go_big_quiet_op; refine hK_ _ ?_; clear hK_ K_)
      (refine tree_quiet (by simp only [List.getElem?_toArray, List.getElem?_cons_succ, List.getElem?_cons_zero]; rfl) (by rfl) (by rfl) (fun K_ hK_ => ?_); go_big_quiet_op; refine hK_ _ ?_; clear hK_ K_)
      (refine tree_quiet (by simp only [List.getElem?_toArray, List.getElem?_cons_succ, List.getElem?_cons_zero]; rfl) (by rfl) (by rfl) (fun K_ hK_ => ?_); go_big_quiet_op; refine hK_ _ ?_; clear hK_ K_)
      (refine tree_quiet (by simp only [List.getElem?_toArray, List.getElem?_cons_succ, List.getElem?_cons_zero]; rfl) (by rfl) (by rfl) (fun K_ hK_ => ?_); go_big_quiet_op; refine hK_ _ ?_; clear hK_ K_)
      (refine tree_quiet (by simp only [List.getElem?_toArray, List.getElem?_cons_succ, List.getElem?_cons_zero]; rfl) (by rfl) (by rfl) (fun K_ hK_ => ?_); go_big_quiet_op; refine hK_ _ ?_; clear hK_ K_)
      (refine tree_quiet (by simp only [List.getElem?_toArray, List.getElem?_cons_succ, List.getElem?_cons_zero]; rfl) (by rfl) (by rfl) (fun K_ hK_ => ?_); go_big_quiet_op; refine hK_ _ ?_; clear hK_ K_)
      (refine tree_quiet (by simp only [List.getElem?_toArray, List.getElem?_cons_succ, List.getElem?_cons_zero]; rfl) (by rfl) (by rfl) (fun K_ hK_ => ?_); go_big_quiet_op; refine hK_ _ ?_; clear hK_ K_)
      (refine tree_quiet (by simp only [List.getElem?_toArray, List.getElem?_cons_succ, List.getElem?_cons_zero]; rfl) (by rfl) (by rfl) (fun K_ hK_ => ?_); go_big_quiet_op; refine hK_ _ ?_; clear hK_ K_)
      (refine tree_quiet (by simp only [List.getElem?_toArray, List.getElem?_cons_succ, List.getElem?_cons_zero]; rfl) (by rfl) (by rfl) (fun K_ hK_ => ?_); go_big_quiet_op; refine hK_ _ ?_; clear hK_ K_)
      (refine tree_quiet (by simp only [List.getElem?_toArray, List.getElem?_cons_succ, List.getElem?_cons_zero]; rfl) (by rfl) (by rfl) (fun K_ hK_ => ?_); go_big_quiet_op; refine hK_ _ ?_; clear hK_ K_)
      (refine tree_quiet (by simp only [List.getElem?_toArray, List.getElem?_cons_succ, List.getElem?_cons_zero]; rfl) (by rfl) (by rfl) (fun K_ hK_ => ?_); go_big_quiet_op; refine hK_ _ ?_; clear hK_ K_)
      (refine tree_quiet (by simp only [List.getElem?_toArray, List.getElem?_cons_succ, List.getElem?_cons_zero]; rfl) (by rfl) (by rfl) (fun K_ hK_ => ?_); go_big_quiet_op; refine hK_ _ ?_; clear hK_ K_)
      refine tree_nil ?_
      clear hG_
      go_wp2_with fail
      go_roundw
      case rel => exact ⟨i + 1, HLT.out, by go_num, HBR.out.drew⟩
      case measure => simp [intOf]; have := HLT.out; omega
    · obtain rfl : i = M := by omega
      go_wp2_with fail
      go_ret
      exact ⟨rfl, HBW.out⟩
end Go.Proofs.Ytgfhmpcfpjioaaa
