
/- The contract of SeekTakes' function that is tried. Conditions: as many bytes as the slice says; need at least 2, keys at least 1, and need at least twice keys. -/
import Derived.Test.YtgfhmpcfpjioaaaSRowsLaw
import Derived.Test.YtgfhmpcfpjioaaaLeaf
namespace Go.Proofs.Ytgfhmpcfpjioaaa
open Go.RowKit

theorem string_info : (Try.prog.info? 9).map (fun i => (i.zero, i.size, i.bytes)) = some (some (.string .empty), 1, 16) := by kernel_rfl
def strsV (bs : List UInt8) (j S M : Nat) : List Value := (List.range M).map fun i => .string (str (rowB bs (j + 10 + i * S) S))
theorem strsV_succ (bs : List UInt8) (j S M : Nat) : strsV bs j S (M + 1) = strsV bs j S M ++ [.string (str (rowB bs (j + 10 + M * S) S))] := by simp [strsV, List.range_succ]
theorem strsV_get (bs : List UInt8) (j S M i : Nat) (h : i < M) : (strsV bs j S M)[i]? = some (.string (str (rowB bs (j + 10 + i * S) S))) := by
  simp [strsV, List.getElem?_map, List.getElem?_range h]
def TakesR (W0 w : World) (g4 : Nat) (bs : List UInt8) (k : Int) (need keys : Nat) (ok : Bool) (w' : World) : Prop :=
  (ok = true ∧ ∃ (j : Nat) (ag : Option Addr) (cg : Nat), k = (j : Nat) ∧ skOk bs j need ∧ w'.heap[g4]? = some (.cells #[.slice ag (skM bs j keys) cg] 44 (0, 0)) ∧ w'.ownsRow w.heap.size 9 1 (.slice ag (skM bs j keys) cg) (skM bs j keys) (strsV bs j (skS bs j) (skM bs j keys)) ∧ Below W0.heap.size W0 w' ∧ w.heap.size ≤ w'.heap.size ∧ (∀ b, b < w.heap.size → b ≠ g4 → w'.heap[b]? = w.heap[b]?)) ∨
  (ok = false ∧ (∀ j : Nat, k = (j : Nat) → ¬ skOk bs j need) ∧ Below w.heap.size w w')
theorem enter_takes1 (args : Array Value) (w : World) : (callFunc 22 args).run Try.prog w = .ok (.enter 22 args) w := by kernel_rfl
def TkRel (W0 w : World) (bs : List UInt8) (a : Option Addr) (c j S M g g4 : Nat) (i : Value) (wr : World) : Prop :=
  ∃ (k : Nat) (ag : Option Addr) (cg : Nat), k ≤ M ∧ i = .int .i64 (k : Nat) ∧ k ≤ cg ∧ cg ≤ maxLen ∧ (ag = none → cg = 0) ∧ wr.heap[g4]? = some (.cells #[.slice ag k cg] 44 (0, 0)) ∧ wr.ownsRow w.heap.size 9 1 (.slice ag k cg) k (strsV bs j S k) ∧
    wr.ownsRow w.heap.size 49 1 (.slice (some ⟨g, 0, none⟩) M M) M (rowsV a c j S M) ∧ Below W0.heap.size W0 wr ∧ w.heap.size ≤ wr.heap.size ∧ (∀ b, b < w.heap.size → b ≠ g4 → wr.heap[b]? = w.heap[b]?)

theorem tk_step {W0 w wr X w3 : World} {bs : List UInt8} {a ag a3 : Option Addr} {c cg c3 j S M g g4 k : Nat} {i st : Value} (hlt : k < M) (hi : i = .int .i64 ((k + 1 : Nat) : Int)) (hX : Below wr.heap.size wr X) (hg3 : X.grownBy w3 (Value.slice ag k cg).ownBlock) (hb3 : Below w.heap.size X w3)
    (hO : wr.ownsRow w.heap.size 9 1 (.slice ag k cg) k (strsV bs j S k)) (hO3 : w3.ownsRow w.heap.size 9 1 (.slice a3 (k + 1) c3) (k + 1) (strsV bs j S k ++ [st])) (hst : strsV bs j S (k + 1) = strsV bs j S k ++ [st]) (h43 : w3.heap[g4]? = some (.cells #[.slice ag k cg] 44 (0, 0)))
    (hV : wr.ownsRow w.heap.size 49 1 (.slice (some ⟨g, 0, none⟩) M M) M (rowsV a c j S M)) (hR : Below W0.heap.size W0 wr) (hz : w.heap.size ≤ wr.heap.size) (hot : ∀ b, b < w.heap.size → b ≠ g4 → wr.heap[b]? = w.heap[b]?) (hz0 : W0.heap.size ≤ w.heap.size) (hB : W0.heap.size ≤ g4) (h4 : g4 < w.heap.size)
    (t1 : k + 1 ≤ c3) (t2 : c3 ≤ maxLen) (t3 : a3 = none → c3 = 0) : TkRel W0 w bs a c j S M g g4 i (w3.setCell ⟨g4, 0, none⟩ (.slice a3 (k + 1) c3)) := by
  have hOX := owns_below hO hX (Nat.le_refl _)
  have hVX := owns_below hV hX (Nat.le_refl _)
  have hV3 := (KeptE.grown hOX hg3).owns hVX (by decide)
  refine ⟨k + 1, a3, c3, hlt, hi, t1, t2, t3, set_heap_at _ h43, ?_, ?_, ?_, ?_, ?_⟩
  · rw [hst]
    exact set_owns _ hO3 (fun h => by have := (hO3.lt _ h.symm).1; omega)
  · exact set_owns _ hV3 (fun h => by have := (hV3.lt _ h.symm).1; omega)
  · exact ((hR.trans (hX.mono hR.size)).trans (hb3.mono hz0)).setCell (p := ⟨g4, 0, none⟩) hB _
  · have h1 := hX.size
    have h2 := hg3.size
    simp; omega
  · intro b hb hne
    rw [set_heap_other _ hne]
    exact ((hb3.block b hb).trans (hX.block b (by omega))).trans (hot b hb hne)

set_option maxRecDepth 100000 in
set_option maxHeartbeats 3200000 in
theorem takes1_any (W0 : World) (a : Option Addr) (n c : Nat) (bs : List UInt8) (k : Int) (need keys : Nat) (g0 g1 g2 g3 g4 : Nat) (w : World) (h : Has W0 a (bytesV bs)) (hl : bs.length = n) (hn : n ≤ c) (hc : c ≤ maxLen) (hk : -9223372036854775808 ≤ k ∧ k ≤ 9223372036854775807)
    (h2 : 2 ≤ need) (hn63 : need ≤ 9223372036854775807) (h1 : 1 ≤ keys) (hkn : 2 * keys ≤ need) (hB : W0.heap.size ≤ g4) (hb0 : Below W0.heap.size W0 w)
    (c0 : w.cell? ⟨g0, 0, none⟩ = some (.slice a n c)) (c1 : w.cell? ⟨g1, 0, none⟩ = some (.int .i64 k)) (c2 : w.cell? ⟨g2, 0, none⟩ = some (.int .i64 (need : Nat))) (c3 : w.cell? ⟨g3, 0, none⟩ = some (.int .i64 (keys : Nat)))
    (c4 : w.heap[g4]? = some (.cells #[.slice none 0 0] 44 (0, 0))) :
    Calls Try.prog 22 #[.pointer (some ⟨g0, 0, none⟩), .pointer (some ⟨g1, 0, none⟩), .pointer (some ⟨g2, 0, none⟩), .pointer (some ⟨g3, 0, none⟩), .pointer (some ⟨g4, 0, none⟩)] w
      fun e w' => (e = .returned (.tuple #[]) ∧ TakesR W0 w g4 bs k need keys true w') ∨ (e = .panicked thrown ∧ TakesR W0 w g4 bs k need keys false w') := by
  have HH := Lib.hid h
  have HL := Lib.hid hl
  have C4 := Lib.hid c4
  have HB0 := Lib.hid hb0
  have l0 := cell_lt c0
  have l1 := cell_lt c1
  have l2 := cell_lt c2
  have l3 := cell_lt c3
  have l4 := (Array.getElem?_eq_some_iff.1 c4).1
  simp only at l0 l1 l2 l3
  have hz0 := hb0.size
  clear h hl c4 hb0
  obtain ⟨hk1, hk2⟩ := hk
  by_cases hok : ∃ j : Nat, k = (j : Nat) ∧ skOk bs j need
  case neg =>
    have HNO := Lib.hid (show ∀ j : Nat, k = (j : Nat) → ¬ skOk bs j need from fun j hj ho => hok ⟨j, hj, ho⟩)
    have HT := Lib.hid (fun W hw => stake_bad a n c bs k need keys W hw HL.out hn hc ⟨hk1, hk2⟩ h2 hn63 h1 hkn HNO.out)
    clear hok
    go_enter Try.func22, Try.ntmps22
    go_wp2_with fail
    refine wp_region_tree (.step 0 (.step 2 (.step 3 (.step 4 (.step 7 (.step 1 (.step 5 (.step 6 .nil)))))))) (by kernel_rfl) (by kernel_rfl) (by kernel_rfl) (by kernel_rfl) (by intro _ _ d_ _ _ h_; cases d_ <;> first | exact h_ | (dsimp +zetaDelta only at h_ ⊢; exact h_)) (fun w' => ∃ p : BelW w.heap.size w, w' = p.val) (bel_start _ _) ?_
    have hG_ := @belC w.heap.size w
    (refine tree_quiet (by simp only [List.getElem?_toArray, List.getElem?_cons_succ, List.getElem?_cons_zero]; rfl) (by rfl) (by rfl) (fun K_ hK_ => ?_); go_big_quiet_op; refine hK_ _ ?_; clear hK_ K_)
    (refine tree_quiet (by simp only [List.getElem?_toArray, List.getElem?_cons_succ, List.getElem?_cons_zero]; rfl) (by rfl) (by rfl) (fun K_ hK_ => ?_); go_big_quiet_op; refine hK_ _ ?_; clear hK_ K_)
    (refine tree_quiet (by simp only [List.getElem?_toArray, List.getElem?_cons_succ, List.getElem?_cons_zero]; rfl) (by rfl) (by rfl) (fun K_ hK_ => ?_); go_big_quiet_op; refine hK_ _ ?_; clear hK_ K_)
    (refine tree_quiet (by simp only [List.getElem?_toArray, List.getElem?_cons_succ, List.getElem?_cons_zero]; rfl) (by rfl) (by rfl) (fun K_ hK_ => ?_); go_big_quiet_op; refine hK_ _ ?_; clear hK_ K_)
    (refine tree_quiet (by simp only [List.getElem?_toArray, List.getElem?_cons_succ, List.getElem?_cons_zero]; rfl) (by rfl) (by rfl) (fun K_ hK_ => ?_); go_big_quiet_op; refine hK_ _ ?_; clear hK_ K_)
    (refine tree_run (by simp only [List.getElem?_toArray, List.getElem?_cons_succ, List.getElem?_cons_zero]; rfl) (by rfl) (by rfl) (fun K_ hK_ => ?_); have HK_ := Lib.hid hK_; clear hK_; go_wp2_with (first | (go_at_call 24; (with_reducible refine (of_any _ _ _ _).mono ?_); rintro e wa ⟨rfl, hba⟩; have hac := bc hba; have haf := bf hba; have haz := hba.size; try simp only [World.size_alloc, World.size_drew] at haz) | (go_at_call 23; (with_reducible refine (HT.out _ ((HH.out.below HB0.out).below (by exact (by repeat (first | exact brefl _ | assumption | refine balloc ?_ _ | refine bdrew ?_ _ | refine bdrew1 ?_ | refine bthen ?_ (by assumption) | refine Below.trans ?_ (by assumption) | (refine bset ?_ (by first | (simp; done) | (simp; omega)) _)))))).mono ?_); rintro e wb ⟨rfl, hbb⟩; have hbc := bc hbb; have hbf := bf hbb; have hbz := hbb.size; try simp only [World.size_alloc, World.size_drew] at hbz)); refine HK_.out _ _ (bel_of (by repeat (first | exact Below.refl _ _ | assumption | refine bdrew1q ?_ | refine balloc ?_ _ | refine bthen ?_ (by assumption) | refine Below.trans ?_ (by assumption)))) ?_; clear HK_)
    (refine tree_run (by simp only [List.getElem?_toArray, List.getElem?_cons_succ, List.getElem?_cons_zero]; rfl) (by rfl) (by rfl) (fun K_ hK_ => ?_); have HK_ := Lib.hid hK_; clear hK_; go_wp2_with (first | (go_at_call 24; (with_reducible refine (of_any _ _ _ _).mono ?_); rintro e wa ⟨rfl, hba⟩; have hac := bc hba; have haf := bf hba; have haz := hba.size; try simp only [World.size_alloc, World.size_drew] at haz) | (go_at_call 23; (with_reducible refine (HT.out _ ((HH.out.below HB0.out).below (by exact (by repeat (first | exact brefl _ | assumption | refine balloc ?_ _ | refine bdrew ?_ _ | refine bdrew1 ?_ | refine bthen ?_ (by assumption) | refine Below.trans ?_ (by assumption) | (refine bset ?_ (by first | (simp; done) | (simp; omega)) _)))))).mono ?_); rintro e wb ⟨rfl, hbb⟩; have hbc := bc hbb; have hbf := bf hbb; have hbz := hbb.size; try simp only [World.size_alloc, World.size_drew] at hbz)); exact ⟨rfl, .inr ⟨rfl, .inr ⟨rfl, HNO.out, by repeat (first | exact Below.refl _ _ | assumption | refine bdrew1q ?_ | refine balloc ?_ _ | refine bthen ?_ (by assumption) | refine Below.trans ?_ (by assumption))⟩⟩⟩)
  obtain ⟨j, rfl, hok⟩ := hok
  have HT := Lib.hid (fun W hw => stake_ok a n c bs j need keys W hw HL.out hn hc h2 hn63 h1 hkn hok)
  obtain ⟨hM, hS, hfit⟩ := stake_len (keys := keys) hok
  have HOK := Lib.hid hok
  have HFT := Lib.hid hfit
  clear hok hfit
  go_enter Try.func22, Try.ntmps22
  go_wp2_with fail
  refine wp_region_tree (.step 0 (.step 2 (.step 3 (.step 4 (.step 7 (.step 1 (.step 5 (.step 6 .nil)))))))) (by kernel_rfl) (by kernel_rfl) (by kernel_rfl) (by kernel_rfl) (by intro _ _ d_ _ _ h_; cases d_ <;> first | exact h_ | (dsimp +zetaDelta only at h_ ⊢; exact h_)) (fun w' => ∃ p : Wld w [], w' = p.val) (wld_start _ _) ?_
  have hG_ := @wldC w
  (refine tree_quiet (by simp only [List.getElem?_toArray, List.getElem?_cons_succ, List.getElem?_cons_zero]; rfl) (by rfl) (by rfl) (fun K_ hK_ => ?_); go_big_quiet_op; refine hK_ _ ?_; clear hK_ K_)
  (refine tree_quiet (by simp only [List.getElem?_toArray, List.getElem?_cons_succ, List.getElem?_cons_zero]; rfl) (by rfl) (by rfl) (fun K_ hK_ => ?_); go_big_quiet_op; refine hK_ _ ?_; clear hK_ K_)
  (refine tree_quiet (by simp only [List.getElem?_toArray, List.getElem?_cons_succ, List.getElem?_cons_zero]; rfl) (by rfl) (by rfl) (fun K_ hK_ => ?_); go_big_quiet_op; refine hK_ _ ?_; clear hK_ K_)
  (refine tree_quiet (by simp only [List.getElem?_toArray, List.getElem?_cons_succ, List.getElem?_cons_zero]; rfl) (by rfl) (by rfl) (fun K_ hK_ => ?_); go_big_quiet_op; refine hK_ _ ?_; clear hK_ K_)
  (refine tree_quiet (by simp only [List.getElem?_toArray, List.getElem?_cons_succ, List.getElem?_cons_zero]; rfl) (by rfl) (by rfl) (fun K_ hK_ => ?_); go_big_quiet_op; refine hK_ _ ?_; clear hK_ K_)
  (refine tree_run (by simp only [List.getElem?_toArray, List.getElem?_cons_succ, List.getElem?_cons_zero]; rfl) (by rfl) (by rfl) (fun K_ hK_ => ?_); have HK_ := Lib.hid hK_; clear hK_; go_wp2_with (first | (go_at_call 24; (with_reducible refine (of_any _ _ _ _).mono ?_); rintro e wa ⟨rfl, hba⟩; have hac := bc hba; have haf := bf hba; have haz := hba.size; try simp only [World.size_alloc, World.size_drew] at haz) | (go_at_call 23; (with_reducible refine (HT.out _ ((HH.out.below HB0.out).below (by exact (by repeat (first | exact brefl _ | assumption | refine balloc ?_ _ | refine bdrew ?_ _ | refine bdrew1 ?_ | refine bthen ?_ (by assumption) | refine Below.trans ?_ (by assumption) | (refine bset ?_ (by first | (simp; done) | (simp; omega)) _)))))).mono ?_); rintro e wb ⟨g, rfl, hown, hbb⟩; have hbz := hbb.size; have HOW := Lib.hid hown; clear hown)); refine HK_.out _ _ (wld_of (by repeat (first | exact same_below (brefl _) | exact same_realloc (by simp) | exact same_below (bdrew1 (brefl _)) | assumption | refine same_drew ?_ | refine same_then ?_ (by assumption) | refine same_alloc ?_ _ | (refine same_set ?_ (by first | (left; simp; done) | (right; simp; done) | (right; simp; omega)) _)))) ?_; clear HK_)
  (refine tree_run (by simp only [List.getElem?_toArray, List.getElem?_cons_succ, List.getElem?_cons_zero]; rfl) (by rfl) (by rfl) (fun K_ hK_ => ?_); have HK_ := Lib.hid hK_; clear hK_; go_wp2_with (first | (go_at_call 24; (with_reducible refine (of_any _ _ _ _).mono ?_); rintro e wa ⟨rfl, hba⟩; have hac := bc hba; have haf := bf hba; have haz := hba.size; try simp only [World.size_alloc, World.size_drew] at haz) | (go_at_call 23; (with_reducible refine (HT.out _ ((HH.out.below HB0.out).below (by exact (by repeat (first | exact brefl _ | assumption | refine balloc ?_ _ | refine bdrew ?_ _ | refine bdrew1 ?_ | refine bthen ?_ (by assumption) | refine Below.trans ?_ (by assumption) | (refine bset ?_ (by first | (simp; done) | (simp; omega)) _)))))).mono ?_); rintro e wb ⟨g, rfl, hown, hbb⟩; have hbz := hbb.size; have HOW := Lib.hid hown; clear hown)); refine HK_.out _ _ (wld_of (by repeat (first | exact same_below (brefl _) | exact same_realloc (by simp) | exact same_below (bdrew1 (brefl _)) | assumption | refine same_drew ?_ | refine same_then ?_ (by assumption) | refine same_alloc ?_ _ | (refine same_set ?_ (by first | (left; simp; done) | (right; simp; done) | (right; simp; omega)) _)))) ?_; clear HK_)
  (refine tree_quiet (by simp only [List.getElem?_toArray, List.getElem?_cons_succ, List.getElem?_cons_zero]; rfl) (by rfl) (by rfl) (fun K_ hK_ => ?_); go_big_quiet_op; refine hK_ _ ?_; clear hK_ K_)
  refine tree_nil ?_
  clear hG_
  have hbw : Below w.heap.size w wb := (by repeat (first | exact brefl _ | assumption | refine balloc ?_ _ | refine bdrew ?_ _ | refine bdrew1 ?_ | refine bthen ?_ (by assumption) | refine Below.trans ?_ (by assumption) | (refine bset ?_ (by first | (simp; done) | (simp; omega)) _)))
  have H4 := Lib.hid ((hbw.block g4 l4).trans C4.out)
  have HOB := Lib.hid (owns_mono HOW.out (show w.heap.size ≤ wa.heap.size by omega))
  have HBW := Lib.hid hbw
  have HW0 := Lib.hid (HB0.out.trans (hbw.mono hz0))
  have hgw : w.heap.size ≤ g := (HOB.out.lt _ rfl).1
  have hwb := hbw.size
  clear HOW hac haf hba hbb hbw hbz haz
  generalize hMe : skM bs j keys = M at *
  generalize hSe : skS bs j = S at *
  have HME := Lib.hid hMe
  have HSE := Lib.hid hSe
  clear hMe hSe
  go_wp2_with fail
  go_loopw [14] (TkRel W0 w bs a c j S M g g4) (fun i _ => M - (intOf i).toNat)
  case atStart => exact ⟨0, none, 0, Nat.zero_le _, rfl, Nat.le_refl _, Nat.zero_le _, fun _ => rfl, H4.out, World.ownsRow_nil _ _ _ _, HOB.out, HW0.out, hwb, fun b hb _ => HBW.out.block b hb⟩
  case round =>
    obtain ⟨i, ag, cg, hi, rfl, hi1, hi2, hi3, h4, hown, hov, hbr, hzr, hoth⟩ := hrel
    have HO := Lib.hid hown
    have HV := Lib.hid hov
    have HBR := Lib.hid hbr
    have HI3 := Lib.hid hi3
    have HR4 := Lib.hid h4
    have HOT := Lib.hid hoth
    clear hown hov hbr hi3 h4 hoth
    by_cases hlt : i < M
    · have HLT := Lib.hid hlt
      have hrv := (HV.out.cellAt i (by omega)).trans (rowsV_get a c j S M i hlt)
      unfold rowV at hrv
      have hft := HFT.out i hlt
      obtain ⟨q, hq⟩ : ∃ q, q = j + 10 + i * S := ⟨_, rfl⟩
      have HSU := Lib.hid (show strsV bs j S (i + 1) = strsV bs j S i ++ [.string (str (rowB bs q S))] by rw [strsV_succ, hq])
      rw [← hq] at hrv hft
      have hB := ((HH.out.below HBR.out).adv c q (by rw [bytesV_length, HL.out]; exact hn)).take S
      rw [bytesV_drop, bytesV_take] at hB
      have hBL : (rowB bs q S).length = S := by rw [rowB, List.length_take, List.length_drop]; omega
      rw [HL.out] at hft
      have HBY := Lib.hid (fun W hw => bytes_any (adv a c q) S (c - q) (rowB bs q S) W hw hBL (by omega))
      have HBB := Lib.hid hB
      have HBL := Lib.hid hBL
      have hgr := (HV.out.lt _ rfl).2
      obtain ⟨gr, hgr1, hgr2, hgr3⟩ : ∃ gr, (∀ x, (Value.slice ag i cg).ownBlock = some x → x = gr) ∧ w.heap.size ≤ gr ∧ gr < wr.heap.size := by
        cases hag : (Value.slice ag i cg).ownBlock with
        | none => exact ⟨g, (fun x hx => by cases hx), hgw, hgr⟩
        | some y => exact ⟨y, (fun x hx => by cases hx; rfl), HO.out.lt y hag⟩
      have HGR := Lib.hid hgr1
      have hne4 : ¬ g4 = gr := by omega
      clear hq hB hBL hgr1
      go_wp2_with fail
      obtain ⟨V, hV⟩ : ∃ V, V = wr.alloc (Obj.cells #[.slice (adv a c q) S (c - q)] 49) := ⟨_, rfl⟩
      have hbV : Below wr.heap.size wr V := by rw [hV]; exact balloc (brefl _) _
      have c6 : V.cell? ⟨wr.heap.size, 0, none⟩ = some (.slice (adv a c q) S (c - q)) := by rw [hV, allocC, if_pos rfl]; rfl
      have hzV : V.heap.size = wr.heap.size + 1 := by rw [hV]; simp
      rw [← hV]
      have l4r : g4 < wr.heap.size := by omega
      have H4V := Lib.hid ((hbV.block g4 l4r).trans HR4.out)
      have c4 := cell_of_heap H4V.out 0
      simp only [List.getElem?_toArray, List.getElem?_cons_zero] at c4
      have l4V : g4 < V.heap.size := by omega
      have l6V : wr.heap.size < V.heap.size := by omega
      have hne6 : ¬ wr.heap.size = gr := by omega
      have hgrV : gr < V.heap.size := by omega
      have HBV := Lib.hid hbV
      have HOV := Lib.hid (owns_below HO.out hbV (Nat.le_refl _))
      clear hV hbV hrv
      obtain ⟨g6, hg6⟩ : ∃ g6, g6 = wr.heap.size := ⟨_, rfl⟩
      rw [← hg6] at hgr3 c6 hzV l4r l6V hne6 ⊢
      have HG6 := Lib.hid hg6
      clear hg6
      have HBX := Lib.hid (HBB.out.below HBV.out)
      refine wp_region_last (.step 0 (.step 1 (.step 2 (.narrow (.step 3 (.step 4 (.narrow (.step 5 (.narrow (.step 6 .nil)))))))))) 6 (by kernel_rfl) (by kernel_rfl) (by kernel_rfl) (by kernel_rfl) (by kernel_rfl) (by intro _ _ d_ _ _ h_; cases d_ <;> first | exact h_ | (dsimp +zetaDelta only at h_ ⊢; exact h_)) (fun w' => ∃ p : Wld V [gr], w' = p.val) (wld_start _ _) ?_
      have hG_ := @wldC1 V gr
      (refine z_quiet (by simp only [List.getElem?_toArray, List.getElem?_cons_succ, List.getElem?_cons_zero]; rfl) (by rfl) (by rfl) (fun K_ hK_ => ?_); go_big_quiet_op; refine hK_ _ ?_; clear hK_ K_)
      (refine z_quiet (by simp only [List.getElem?_toArray, List.getElem?_cons_succ, List.getElem?_cons_zero]; rfl) (by rfl) (by rfl) (fun K_ hK_ => ?_); go_big_quiet_op; refine hK_ _ ?_; clear hK_ K_)
      (refine z_run (by simp only [List.getElem?_toArray, List.getElem?_cons_succ, List.getElem?_cons_zero]; rfl) (by rfl) (by rfl) (fun K_ hK_ => ?_); have HK_ := Lib.hid hK_; clear hK_; (first | ((refine wpAppO _ _ 44 rfl w.heap.size 9 (.string .empty) 1 16 Try.underlying44 string_info rfl (by decide) _ i (strsV bs j S i) rfl (owns_below HOV.out (bthen (bdrew1 (brefl V)) (balloc hbb _)) (Nat.le_refl _)) ⟨wb.heap.size, 0, none⟩ 1 1 [.string (str (rowB bs q S))] rfl rfl (has_alloc _ _ _) (fun u hu => by simp at hu; subst hu; rfl) (by unfold maxLen; omega) (by omega) (by simp; omega) ?_; intro a3 c3 w3 hown3 t31 t32 t33 hb3 hg3; have HO3 := Lib.hid hown3; have HN3 := Lib.hid t33; have HB3 := Lib.hid hb3; have HG3 := Lib.hid hg3; have hs3 : Same (wb.alloc (Obj.cells #[.string (str (rowB bs q S))] 9)) [gr] w3 := ⟨hg3.size, fun k hk hx => hg3.block k hk (fun he => hx (by rw [HGR.out k he.symm]; simp))⟩; have h43 := (hs3.block g4 (by simp only [World.size_alloc]; omega) (by simpa using hne4)).trans ((by rw [heap_push, if_neg (by omega)] : _ = wb.heap[g4]?).trans ((hbb.block g4 (by simpa using l4V)).trans H4V.out)); have s4 := cell_of_heap h43 0; have sf := fun o => froz_of_heap h43 o; have H43 := Lib.hid h43; have hz3 := hg3.size; clear hown3 t33 hb3 hg3 h43; dsimp only [Act.put]; simp only [List.setIfInBounds_toArray, List.set_cons_succ, List.set_cons_zero])) | (go_wp2_with ((go_at_call 25; (with_reducible refine (HBY.out _ (HBX.out.below (by exact (by repeat (first | exact brefl _ | assumption | refine balloc ?_ _ | refine bdrew ?_ _ | refine bdrew1 ?_ | refine bthen ?_ (by assumption) | refine Below.trans ?_ (by assumption) | (refine bset ?_ (by first | (simp; done) | (simp; omega)) _)))))).mono ?_); rintro r wb ⟨ab, cb, rfl, hob, k1, k2, k3, hbb⟩; have hbz := hbb.size; simp only [World.size_drew] at hbz; have hsb := str_wld' hob HBL.out [gr] (by intro x hx; rw [List.mem_singleton] at hx; subst hx; simp only [World.size_drew]; omega); clear k3)))); refine HK_.out _ _ (wld_of (by repeat (first | exact same_below (brefl _) | exact same_realloc (by simp) | exact same_below (bdrew1 (brefl _)) | assumption | refine same_drew ?_ | refine same_then ?_ (by assumption) | refine same_alloc ?_ _ | (refine same_set ?_ (by first | (left; simp; done) | (right; simp; done) | (right; simp; omega)) _)))) ?_; clear HK_)
      refine z_move (by repeat (first | exact same_below (brefl _) | exact same_realloc (by simp) | exact same_below (bdrew1 (brefl _)) | assumption | refine same_drew ?_ | refine same_then ?_ (by assumption) | refine same_alloc ?_ _ | (refine same_set ?_ (by first | (left; simp; done) | (right; simp; done) | (right; simp; omega)) _))) ?_; clear hG_; intro hG_
      (refine z_quiet (by simp only [List.getElem?_toArray, List.getElem?_cons_succ, List.getElem?_cons_zero]; rfl) (by rfl) (by rfl) (fun K_ hK_ => ?_); go_big_quiet_op; refine hK_ _ ?_; clear hK_ K_)
      (refine z_run (by simp only [List.getElem?_toArray, List.getElem?_cons_succ, List.getElem?_cons_zero]; rfl) (by rfl) (by rfl) (fun K_ hK_ => ?_); have HK_ := Lib.hid hK_; clear hK_; (first | ((refine wpAppO _ _ 44 rfl w.heap.size 9 (.string .empty) 1 16 Try.underlying44 string_info rfl (by decide) _ i (strsV bs j S i) rfl (owns_below HOV.out (bthen (bdrew1 (brefl V)) (balloc hbb _)) (Nat.le_refl _)) ⟨wb.heap.size, 0, none⟩ 1 1 [.string (str (rowB bs q S))] rfl rfl (has_alloc _ _ _) (fun u hu => by simp at hu; subst hu; rfl) (by unfold maxLen; omega) (by omega) (by simp; omega) ?_; intro a3 c3 w3 hown3 t31 t32 t33 hb3 hg3; have HO3 := Lib.hid hown3; have HN3 := Lib.hid t33; have HB3 := Lib.hid hb3; have HG3 := Lib.hid hg3; have hs3 : Same (wb.alloc (Obj.cells #[.string (str (rowB bs q S))] 9)) [gr] w3 := ⟨hg3.size, fun k hk hx => hg3.block k hk (fun he => hx (by rw [HGR.out k he.symm]; simp))⟩; have h43 := (hs3.block g4 (by simp only [World.size_alloc]; omega) (by simpa using hne4)).trans ((by rw [heap_push, if_neg (by omega)] : _ = wb.heap[g4]?).trans ((hbb.block g4 (by simpa using l4V)).trans H4V.out)); have s4 := cell_of_heap h43 0; have sf := fun o => froz_of_heap h43 o; have H43 := Lib.hid h43; have hz3 := hg3.size; clear hown3 t33 hb3 hg3 h43; dsimp only [Act.put]; simp only [List.setIfInBounds_toArray, List.set_cons_succ, List.set_cons_zero])) | (go_wp2_with ((go_at_call 25; (with_reducible refine (HBY.out _ (HBX.out.below (by exact (by repeat (first | exact brefl _ | assumption | refine balloc ?_ _ | refine bdrew ?_ _ | refine bdrew1 ?_ | refine bthen ?_ (by assumption) | refine Below.trans ?_ (by assumption) | (refine bset ?_ (by first | (simp; done) | (simp; omega)) _)))))).mono ?_); rintro r wb ⟨ab, cb, rfl, hob, k1, k2, k3, hbb⟩; have hbz := hbb.size; simp only [World.size_drew] at hbz; have hsb := str_wld' hob HBL.out [gr] (by intro x hx; rw [List.mem_singleton] at hx; subst hx; simp only [World.size_drew]; omega); clear k3)))); refine HK_.out _ _ (wld_of (by repeat (first | exact same_below (brefl _) | exact same_realloc (by simp) | exact same_below (bdrew1 (brefl _)) | assumption | refine same_drew ?_ | refine same_then ?_ (by assumption) | refine same_alloc ?_ _ | (refine same_set ?_ (by first | (left; simp; done) | (right; simp; done) | (right; simp; omega)) _)))) ?_; clear HK_)
      refine z_move (by repeat (first | exact same_below (brefl _) | exact same_realloc (by simp) | exact same_below (bdrew1 (brefl _)) | assumption | refine same_drew ?_ | refine same_then ?_ (by assumption) | refine same_alloc ?_ _ | (refine same_set ?_ (by first | (left; simp; done) | (right; simp; done) | (right; simp; omega)) _))) ?_; clear hG_; intro hG_
      (refine z_run (by simp only [List.getElem?_toArray, List.getElem?_cons_succ, List.getElem?_cons_zero]; rfl) (by rfl) (by rfl) (fun K_ hK_ => ?_); have HK_ := Lib.hid hK_; clear hK_; (first | ((refine wpAppO _ _ 44 rfl w.heap.size 9 (.string .empty) 1 16 Try.underlying44 string_info rfl (by decide) _ i (strsV bs j S i) rfl (owns_below HOV.out (bthen (bdrew1 (brefl V)) (balloc hbb _)) (Nat.le_refl _)) ⟨wb.heap.size, 0, none⟩ 1 1 [.string (str (rowB bs q S))] rfl rfl (has_alloc _ _ _) (fun u hu => by simp at hu; subst hu; rfl) (by unfold maxLen; omega) (by omega) (by simp; omega) ?_; intro a3 c3 w3 hown3 t31 t32 t33 hb3 hg3; have HO3 := Lib.hid hown3; have HN3 := Lib.hid t33; have HB3 := Lib.hid hb3; have HG3 := Lib.hid hg3; have hs3 : Same (wb.alloc (Obj.cells #[.string (str (rowB bs q S))] 9)) [gr] w3 := ⟨hg3.size, fun k hk hx => hg3.block k hk (fun he => hx (by rw [HGR.out k he.symm]; simp))⟩; have h43 := (hs3.block g4 (by simp only [World.size_alloc]; omega) (by simpa using hne4)).trans ((by rw [heap_push, if_neg (by omega)] : _ = wb.heap[g4]?).trans ((hbb.block g4 (by simpa using l4V)).trans H4V.out)); have s4 := cell_of_heap h43 0; have sf := fun o => froz_of_heap h43 o; have H43 := Lib.hid h43; have hz3 := hg3.size; clear hown3 t33 hb3 hg3 h43; dsimp only [Act.put]; simp only [List.setIfInBounds_toArray, List.set_cons_succ, List.set_cons_zero])) | (go_wp2_with ((go_at_call 25; (with_reducible refine (HBY.out _ (HBX.out.below (by exact (by repeat (first | exact brefl _ | assumption | refine balloc ?_ _ | refine bdrew ?_ _ | refine bdrew1 ?_ | refine bthen ?_ (by assumption) | refine Below.trans ?_ (by assumption) | (refine bset ?_ (by first | (simp; done) | (simp; omega)) _)))))).mono ?_); rintro r wb ⟨ab, cb, rfl, hob, k1, k2, k3, hbb⟩; have hbz := hbb.size; simp only [World.size_drew] at hbz; have hsb := str_wld' hob HBL.out [gr] (by intro x hx; rw [List.mem_singleton] at hx; subst hx; simp only [World.size_drew]; omega); clear k3)))); refine HK_.out _ _ (wld_of (by repeat (first | exact same_below (brefl _) | exact same_realloc (by simp) | exact same_below (bdrew1 (brefl _)) | assumption | refine same_drew ?_ | refine same_then ?_ (by assumption) | refine same_alloc ?_ _ | (refine same_set ?_ (by first | (left; simp; done) | (right; simp; done) | (right; simp; omega)) _)))) ?_; clear HK_)
      refine z_move (by repeat (first | exact same_below (brefl _) | exact same_realloc (by simp) | exact same_below (bdrew1 (brefl _)) | assumption | refine same_drew ?_ | refine same_then ?_ (by assumption) | refine same_alloc ?_ _ | (refine same_set ?_ (by first | (left; simp; done) | (right; simp; done) | (right; simp; omega)) _))) ?_; clear hG_; intro hG_
      (refine z_last (by simp only [List.getElem?_toArray, List.getElem?_cons_succ, List.getElem?_cons_zero]; rfl) (by rfl) (by rfl) (by rfl) (fun K_ hK_ => ?_); have HK_ := Lib.hid hK_; clear hK_; (first | ((refine wpAppO _ _ 44 rfl w.heap.size 9 (.string .empty) 1 16 Try.underlying44 string_info rfl (by decide) _ i (strsV bs j S i) rfl (owns_below HOV.out (bthen (bdrew1 (brefl V)) (balloc hbb _)) (Nat.le_refl _)) ⟨wb.heap.size, 0, none⟩ 1 1 [.string (str (rowB bs q S))] rfl rfl (has_alloc _ _ _) (fun u hu => by simp at hu; subst hu; rfl) (by unfold maxLen; omega) (by omega) (by simp; omega) ?_; intro a3 c3 w3 hown3 t31 t32 t33 hb3 hg3; have HO3 := Lib.hid hown3; have HN3 := Lib.hid t33; have HB3 := Lib.hid hb3; have HG3 := Lib.hid hg3; have hs3 : Same (wb.alloc (Obj.cells #[.string (str (rowB bs q S))] 9)) [gr] w3 := ⟨hg3.size, fun k hk hx => hg3.block k hk (fun he => hx (by rw [HGR.out k he.symm]; simp))⟩; have h43 := (hs3.block g4 (by simp only [World.size_alloc]; omega) (by simpa using hne4)).trans ((by rw [heap_push, if_neg (by omega)] : _ = wb.heap[g4]?).trans ((hbb.block g4 (by simpa using l4V)).trans H4V.out)); have s4 := cell_of_heap h43 0; have sf := fun o => froz_of_heap h43 o; have H43 := Lib.hid h43; have hz3 := hg3.size; clear hown3 t33 hb3 hg3 h43; dsimp only [Act.put]; simp only [List.setIfInBounds_toArray, List.set_cons_succ, List.set_cons_zero])) | (go_wp2_with ((go_at_call 25; (with_reducible refine (HBY.out _ (HBX.out.below (by exact (by repeat (first | exact brefl _ | assumption | refine balloc ?_ _ | refine bdrew ?_ _ | refine bdrew1 ?_ | refine bthen ?_ (by assumption) | refine Below.trans ?_ (by assumption) | (refine bset ?_ (by first | (simp; done) | (simp; omega)) _)))))).mono ?_); rintro r wb ⟨ab, cb, rfl, hob, k1, k2, k3, hbb⟩; have hbz := hbb.size; simp only [World.size_drew] at hbz; have hsb := str_wld' hob HBL.out [gr] (by intro x hx; rw [List.mem_singleton] at hx; subst hx; simp only [World.size_drew]; omega); clear k3)))); refine HK_.out _ _ ?_; clear HK_)
      refine z_nil ?_
      clear hG_
      have HXX := Lib.hid (show Below wr.heap.size wr (wb.alloc (Obj.cells #[.string (str (rowB bs q S))] 9)) from HBV.out.trans (Below.mono (show Below V.heap.size V _ from bthen (bdrew1 (brefl V)) (balloc hbb _)) HBV.out.size))
      clear hbb hob hs3 s4 sf c6 c4 HBX HBY
      go_wp2_with fail
      go_roundw
      case rel => exact tk_step HLT.out (by go_num) HXX.out HG3.out HB3.out HO.out HO3.out HSU.out H43.out HV.out HBR.out (by have := HG6.out; omega) HOT.out hz0 hB l4 t31 t32 HN3.out
      case measure => simp [intOf]; have := HLT.out; omega
    · obtain rfl : i = M := by omega
      go_wp2_with fail
      go_end0
      exact .inl ⟨rfl, .inl ⟨rfl, j, ag, cg, rfl, HOK.out, by rw [HME.out]; exact HR4.out, by rw [HME.out, HSE.out]; exact HO.out, HBR.out, hzr, HOT.out⟩⟩
end Go.Proofs.Ytgfhmpcfpjioaaa
