
/- The walk of SeekTakes. Condition: as many bytes as the slice says; numbers within 64 bits. -/
import Derived.Test.YtgfhmpcfpjioaaaSTakes
import Derived.Test.YtgfhmpcfpjioaaaSOwnLaw
import Derived.Test.YtgfhmpcfpjioaaaLeaf
namespace Go.Proofs.Ytgfhmpcfpjioaaa
open Go.RowKit

set_option maxRecDepth 100000 in
set_option maxHeartbeats 3200000 in
theorem seekTakes_walk (a : Option Addr) (n c : Nat) (bs : List UInt8) (k need keys : Int) (w : World) (h : Has w a (bytesV bs)) (hl : bs.length = n) (hn : n ≤ c) (hc : c ≤ maxLen) (_hA : a = none → c = 0) (hk : -9223372036854775808 ≤ k ∧ k ≤ 9223372036854775807)
    (hne : -9223372036854775808 ≤ need ∧ need ≤ 9223372036854775807) (hke : -9223372036854775808 ≤ keys ∧ keys ≤ 9223372036854775807) :
    Calls Try.prog 7 #[.slice a n c, .int .i64 k, .agg #[.int .i64 need, .int .i64 keys]] w fun e w' => e = .returned (.bool true) ∧ Below w.heap.size w w' := by
  have hAC := allocC
  have hAF := allocF
  have hmf : ∀ (fn : Fn) (first cap : Array Value) (w : World), (Instr.makeFunc fn first cap).run Try.prog w = .ok (.func fn first cap) w := fun _ _ _ _ => rfl
  have HH := Lib.hid h
  have HL := Lib.hid hl
  have HK := Lib.hid hk
  have HNE := Lib.hid hne
  have HKE := Lib.hid hke
  obtain ⟨hn1, hn2⟩ := hne
  obtain ⟨hk1, hk2⟩ := hke
  clear h hl hk
  go_enter Try.func7, Try.ntmps7
  go_wp2_with (first | (go_at_call 14; refine (speaks5_any _).mono ?_; rintro e w1 ⟨rfl, hb1⟩; have h1c := bc hb1; have h1f := bf hb1; have h1z := hb1.size; try simp only [World.size_alloc, World.size_drew] at h1z))
  have c0 : w1.heap[w.heap.size]? = some (.cells #[.slice a n c] 22 (0, 0)) := (hb1.block _ (by simp; omega)).trans (by rw [heap_push, if_neg (by simp; omega), heap_push, if_neg (by simp), heap_push, if_pos rfl])
  have c1 : w1.heap[w.heap.size + 1]? = some (.cells #[.int .i64 k] 3 (0, 0)) := (hb1.block _ (by simp)).trans (by rw [heap_push, if_neg (by simp), heap_push, if_pos (by simp)])
  have c2 : w1.cell? ⟨w.heap.size + 1 + 1, 0, none⟩ = some (.int .i64 need) := by rw [h1c, if_pos (by simp)]; simp [hAC]
  have c3 : w1.cell? ⟨w.heap.size + 1 + 1, 1, none⟩ = some (.int .i64 keys) := by rw [h1c, if_pos (by simp)]; simp [hAC]
  have hl1 : w.heap.size + 1 + 1 < w1.heap.size := by omega
  have HB1 := Lib.hid (show Below w.heap.size w w1 from (by repeat (first | exact brefl _ | assumption | refine balloc ?_ _ | refine bdrew ?_ _ | refine bdrew1 ?_ | refine bthen ?_ (by assumption) | refine Below.trans ?_ (by assumption) | (refine bset ?_ (by first | (simp; done) | (simp; omega)) _))))
  have C0 := Lib.hid c0
  have C1 := Lib.hid c1
  clear h1c h1f hb1 c0 c1
  apply cutP (R := ∀ (g_ : Nat) (h_ : Nat) (W_ : World), (fun ga gb V => Below w1.heap.size w1 V ∧ V.heap.size = w1.heap.size + 2 ∧ ((ga = w1.heap.size ∧ gb = w1.heap.size + 1) ∨ (gb = w1.heap.size ∧ ga = w1.heap.size + 1)) ∧ V.heap[ga]? = some (.cells #[.int .i64 need] 3 (0, 0)) ∧ V.heap[gb]? = some (.cells #[.int .i64 keys] 3 (0, 0))) g_ h_ W_ → _)
  · intro hfin_
    refine wp_region_tree (.step 0 (.step 1 (.step 2 (.step 3 (.two 4 (.step 5 (.step 6 (.step 7 .nil))) 5 (.step 4 (.step 6 (.step 7 .nil)))))))) (by kernel_rfl) (by kernel_rfl) (by kernel_rfl) (by kernel_rfl) (by intro _ _ d_ _ _ h_; cases d_ <;> first | exact h_ | (dsimp +zetaDelta only at h_ ⊢; exact h_)) (fun w' => ∃ p : Wld w1 [], w' = p.val) (wld_start _ _) ?_
    have hG_ := @wldC w1
    (refine tree_quiet (by simp only [List.getElem?_toArray, List.getElem?_cons_succ, List.getElem?_cons_zero]; rfl) (by rfl) (by rfl) (fun K_ hK_ => ?_); go_big_quiet_op; refine hK_ _ ?_; clear hK_ K_)
    (refine tree_quiet (by simp only [List.getElem?_toArray, List.getElem?_cons_succ, List.getElem?_cons_zero]; rfl) (by rfl) (by rfl) (fun K_ hK_ => ?_); go_big_quiet_op; refine hK_ _ ?_; clear hK_ K_)
    (refine tree_quiet (by simp only [List.getElem?_toArray, List.getElem?_cons_succ, List.getElem?_cons_zero]; rfl) (by rfl) (by rfl) (fun K_ hK_ => ?_); go_big_quiet_op; refine hK_ _ ?_; clear hK_ K_)
    (refine tree_quiet (by simp only [List.getElem?_toArray, List.getElem?_cons_succ, List.getElem?_cons_zero]; rfl) (by rfl) (by rfl) (fun K_ hK_ => ?_); go_big_quiet_op; refine hK_ _ ?_; clear hK_ K_)
    refine tree_two (by simp only [List.getElem?_toArray, List.getElem?_cons_succ, List.getElem?_cons_zero]; rfl) (by simp only [List.getElem?_toArray, List.getElem?_cons_succ, List.getElem?_cons_zero]; rfl) (by rfl) (by rfl) (fun K_ hK_ => ?_) (fun K_ hK_ => ?_)
    · have HK_ := Lib.hid hK_; clear hK_; go_wp2_with (fail); refine HK_.out _ _ (wld_of (by repeat (first | exact same_below (brefl _) | exact same_realloc (by simp) | exact same_below (bdrew1 (brefl _)) | assumption | refine same_drew ?_ | refine same_then ?_ (by assumption) | refine same_alloc ?_ _ | (refine same_set ?_ (by first | (left; simp; done) | (right; simp; done) | (right; simp; omega)) _)))) ?_; clear HK_
      (refine tree_run (by simp only [List.getElem?_toArray, List.getElem?_cons_succ, List.getElem?_cons_zero]; rfl) (by rfl) (by rfl) (fun K_ hK_ => ?_); have HK_ := Lib.hid hK_; clear hK_; go_wp2_with (fail); refine HK_.out _ _ (wld_of (by repeat (first | exact same_below (brefl _) | exact same_realloc (by simp) | exact same_below (bdrew1 (brefl _)) | assumption | refine same_drew ?_ | refine same_then ?_ (by assumption) | refine same_alloc ?_ _ | (refine same_set ?_ (by first | (left; simp; done) | (right; simp; done) | (right; simp; omega)) _)))) ?_; clear HK_)
      (refine tree_run (by simp only [List.getElem?_toArray, List.getElem?_cons_succ, List.getElem?_cons_zero]; rfl) (by rfl) (by rfl) (fun K_ hK_ => ?_); have HK_ := Lib.hid hK_; clear hK_; go_wp2_with (fail); refine HK_.out _ _ (wld_of (by repeat (first | exact same_below (brefl _) | exact same_realloc (by simp) | exact same_below (bdrew1 (brefl _)) | assumption | refine same_drew ?_ | refine same_then ?_ (by assumption) | refine same_alloc ?_ _ | (refine same_set ?_ (by first | (left; simp; done) | (right; simp; done) | (right; simp; omega)) _)))) ?_; clear HK_)
      (refine tree_run (by simp only [List.getElem?_toArray, List.getElem?_cons_succ, List.getElem?_cons_zero]; rfl) (by rfl) (by rfl) (fun K_ hK_ => ?_); have HK_ := Lib.hid hK_; clear hK_; go_wp2_with (fail); refine HK_.out _ _ (wld_of (by repeat (first | exact same_below (brefl _) | exact same_realloc (by simp) | exact same_below (bdrew1 (brefl _)) | assumption | refine same_drew ?_ | refine same_then ?_ (by assumption) | refine same_alloc ?_ _ | (refine same_set ?_ (by first | (left; simp; done) | (right; simp; done) | (right; simp; omega)) _)))) ?_; clear HK_)
      refine tree_nil ?_
      refine leaf_two 7 8 (by decide) (fun ga gb V => Below w1.heap.size w1 V ∧ V.heap.size = w1.heap.size + 2 ∧ ((ga = w1.heap.size ∧ gb = w1.heap.size + 1) ∨ (gb = w1.heap.size ∧ ga = w1.heap.size + 1)) ∧ V.heap[ga]? = some (.cells #[.int .i64 need] 3 (0, 0)) ∧ V.heap[gb]? = some (.cells #[.int .i64 keys] 3 (0, 0))) _ _ (by rfl) (by rfl) (by first | (simp only [blank, List.setIfInBounds_toArray, List.set_cons_succ, List.set_cons_zero]; rfl) | simp only [blank, List.setIfInBounds_toArray, List.set_cons_succ, List.set_cons_zero]) (hfin_ ()) ?_
      (refine ⟨(by repeat (first | exact brefl _ | assumption | refine balloc ?_ _ | refine bdrew ?_ _ | refine bdrew1 ?_ | refine bthen ?_ (by assumption) | refine Below.trans ?_ (by assumption) | (refine bset ?_ (by first | (simp; done) | (simp; omega)) _))), ?_⟩; first | (obtain ⟨z1, z2, z3⟩ := two_new w1 (.int .i64 need) (.int .i64 keys) 3 3; exact ⟨z3, .inl ⟨rfl, rfl⟩, z1, z2⟩) | (obtain ⟨z1, z2, z3⟩ := two_new w1 (.int .i64 keys) (.int .i64 need) 3 3; exact ⟨z3, .inr ⟨rfl, rfl⟩, z2, z1⟩))
    · have HK_ := Lib.hid hK_; clear hK_; go_wp2_with (fail); refine HK_.out _ _ (wld_of (by repeat (first | exact same_below (brefl _) | exact same_realloc (by simp) | exact same_below (bdrew1 (brefl _)) | assumption | refine same_drew ?_ | refine same_then ?_ (by assumption) | refine same_alloc ?_ _ | (refine same_set ?_ (by first | (left; simp; done) | (right; simp; done) | (right; simp; omega)) _)))) ?_; clear HK_
      (refine tree_run (by simp only [List.getElem?_toArray, List.getElem?_cons_succ, List.getElem?_cons_zero]; rfl) (by rfl) (by rfl) (fun K_ hK_ => ?_); have HK_ := Lib.hid hK_; clear hK_; go_wp2_with (fail); refine HK_.out _ _ (wld_of (by repeat (first | exact same_below (brefl _) | exact same_realloc (by simp) | exact same_below (bdrew1 (brefl _)) | assumption | refine same_drew ?_ | refine same_then ?_ (by assumption) | refine same_alloc ?_ _ | (refine same_set ?_ (by first | (left; simp; done) | (right; simp; done) | (right; simp; omega)) _)))) ?_; clear HK_)
      (refine tree_run (by simp only [List.getElem?_toArray, List.getElem?_cons_succ, List.getElem?_cons_zero]; rfl) (by rfl) (by rfl) (fun K_ hK_ => ?_); have HK_ := Lib.hid hK_; clear hK_; go_wp2_with (fail); refine HK_.out _ _ (wld_of (by repeat (first | exact same_below (brefl _) | exact same_realloc (by simp) | exact same_below (bdrew1 (brefl _)) | assumption | refine same_drew ?_ | refine same_then ?_ (by assumption) | refine same_alloc ?_ _ | (refine same_set ?_ (by first | (left; simp; done) | (right; simp; done) | (right; simp; omega)) _)))) ?_; clear HK_)
      (refine tree_run (by simp only [List.getElem?_toArray, List.getElem?_cons_succ, List.getElem?_cons_zero]; rfl) (by rfl) (by rfl) (fun K_ hK_ => ?_); have HK_ := Lib.hid hK_; clear hK_; go_wp2_with (fail); refine HK_.out _ _ (wld_of (by repeat (first | exact same_below (brefl _) | exact same_realloc (by simp) | exact same_below (bdrew1 (brefl _)) | assumption | refine same_drew ?_ | refine same_then ?_ (by assumption) | refine same_alloc ?_ _ | (refine same_set ?_ (by first | (left; simp; done) | (right; simp; done) | (right; simp; omega)) _)))) ?_; clear HK_)
      refine tree_nil ?_
      refine leaf_two 7 8 (by decide) (fun ga gb V => Below w1.heap.size w1 V ∧ V.heap.size = w1.heap.size + 2 ∧ ((ga = w1.heap.size ∧ gb = w1.heap.size + 1) ∨ (gb = w1.heap.size ∧ ga = w1.heap.size + 1)) ∧ V.heap[ga]? = some (.cells #[.int .i64 need] 3 (0, 0)) ∧ V.heap[gb]? = some (.cells #[.int .i64 keys] 3 (0, 0))) _ _ (by rfl) (by rfl) (by first | (simp only [blank, List.setIfInBounds_toArray, List.set_cons_succ, List.set_cons_zero]; rfl) | simp only [blank, List.setIfInBounds_toArray, List.set_cons_succ, List.set_cons_zero]) (hfin_ ()) ?_
      (refine ⟨(by repeat (first | exact brefl _ | assumption | refine balloc ?_ _ | refine bdrew ?_ _ | refine bdrew1 ?_ | refine bthen ?_ (by assumption) | refine Below.trans ?_ (by assumption) | (refine bset ?_ (by first | (simp; done) | (simp; omega)) _))), ?_⟩; first | (obtain ⟨z1, z2, z3⟩ := two_new w1 (.int .i64 need) (.int .i64 keys) 3 3; exact ⟨z3, .inl ⟨rfl, rfl⟩, z1, z2⟩) | (obtain ⟨z1, z2, z3⟩ := two_new w1 (.int .i64 keys) (.int .i64 need) 3 3; exact ⟨z3, .inr ⟨rfl, rfl⟩, z2, z1⟩))
  intro ga gb V ⟨bV, hzV, hgab, hA, hB⟩
  simp only [List.setIfInBounds_toArray, List.set_cons_succ, List.set_cons_zero]
  have HBV := Lib.hid (HB1.out.trans (bV.mono (by omega)))
  have C0V := Lib.hid ((bV.block _ (by omega)).trans C0.out)
  have C1V := Lib.hid ((bV.block _ (by omega)).trans C1.out)
  have d0 := cell_of_heap C0V.out 0
  have d1 := cell_of_heap C1V.out 0
  have d2 := cell_of_heap hA 0
  have d3 := cell_of_heap hB 0
  simp only [List.getElem?_toArray, List.getElem?_cons_zero] at d0 d1 d2 d3
  have HA2 := Lib.hid hA
  have HB2 := Lib.hid hB
  have lb : w.heap.size ≤ ga ∧ w.heap.size ≤ gb ∧ ga < V.heap.size ∧ gb < V.heap.size ∧ w.heap.size + 1 < V.heap.size := by omega
  obtain ⟨lb1, lb2, lb3, lb4, lb5⟩ := lb
  clear hgab hA hB bV C0 C1 c2 c3 hl1 hzV
  by_cases hbig : 2000 < n
  · unfold maxLen at hc
    go_wp2_with fail
    go_ret
    exact ⟨rfl, HBV.out⟩
  by_cases hb1 : need < 2
  · go_wp2_with fail
    go_ret
    exact ⟨rfl, HBV.out⟩
  by_cases hb2 : keys < 1
  · go_wp2_with fail
    go_ret
    exact ⟨rfl, HBV.out⟩
  by_cases hb3 : need / 2 < keys
  · have h0 : 2 ≤ need := by omega
    go_wp2_with fail
    go_ret
    exact ⟨rfl, HBV.out⟩
  obtain ⟨N, rfl⟩ : ∃ N : Nat, need = N := ⟨need.toNat, by omega⟩
  obtain ⟨K, rfl⟩ : ∃ K : Nat, keys = K := ⟨keys.toNat, by omega⟩
  have h2 : 2 ≤ N := by omega
  have h3 : 1 ≤ K := by omega
  have h4 : 2 * K ≤ N := by omega
  go_wp2_with fail
  obtain ⟨W, hW⟩ : ∃ W, W = V.alloc (Obj.cells #[.slice none 0 0] 44) := ⟨_, rfl⟩
  have bW : Below V.heap.size V W := by rw [hW]; exact balloc (brefl _) _
  have zW : W.heap.size = V.heap.size + 1 := by rw [hW]; simp
  have e4 : W.heap[V.heap.size]? = some (.cells #[.slice none 0 0] 44 (0, 0)) := by rw [hW]; exact heap_new _ _ _
  have e0 := (bW.block _ (by omega)).trans C0V.out
  have e1 := (bW.block _ lb5).trans C1V.out
  have e2 := (bW.block _ lb3).trans HA2.out
  have e3 := (bW.block _ lb4).trans HB2.out
  have HBW := Lib.hid (HBV.out.trans (bW.mono HBV.out.size))
  have HT := Lib.hid (try_any 22 #[.pointer (some ⟨w.heap.size, 0, none⟩), .pointer (some ⟨w.heap.size + 1, 0, none⟩), .pointer (some ⟨ga, 0, none⟩), .pointer (some ⟨gb, 0, none⟩), .pointer (some ⟨V.heap.size, 0, none⟩)] W (TakesR w W V.heap.size bs k N K) (enter_takes1 _)
    (takes1_any w a n c bs k N K _ _ _ _ _ W HH.out HL.out hn hc HK.out h2 (by omega) h3 h4 HBV.out.size HBW.out (cell_of_heap e0 0) (cell_of_heap e1 0) (cell_of_heap e2 0) (cell_of_heap e3 0) e4))
  have E0 := Lib.hid e0
  have E1 := Lib.hid e1
  have E2 := Lib.hid e2
  have E3 := Lib.hid e3
  have E4 := Lib.hid e4
  rw [← hW]
  clear hW bW d0 d1 d2 d3 e0 e1 e2 e3 e4
  refine HT.out.mono ?_
  clear HT
  obtain ⟨g4, hg4⟩ : ∃ g4, g4 = V.heap.size := ⟨_, rfl⟩
  rw [← hg4] at zW lb3 lb4 lb5 ⊢
  clear hg4
  rintro r w2 ⟨ok, rfl, (⟨rfl, j, ag, cg, rfl, hok, hG, hown, hb2', hz2, hoth⟩ | ⟨rfl, hno, hb2'⟩)⟩
  case inr =>
    have d0 := cell_of_heap ((hb2'.block _ (by omega)).trans E0.out) 0
    have d1 := cell_of_heap ((hb2'.block _ (by omega)).trans E1.out) 0
    have d2 := cell_of_heap ((hb2'.block _ (by omega)).trans E2.out) 0
    have d3 := cell_of_heap ((hb2'.block _ (by omega)).trans E3.out) 0
    simp only [List.getElem?_toArray, List.getElem?_cons_zero] at d0 d1 d2 d3
    have HW2 := Lib.hid (HBW.out.trans (hb2'.mono HBW.out.size))
    have HRB := Lib.hid (sread_none a n c bs k N K w2 (HH.out.below HW2.out) HL.out hn hc HK.out h2 (by omega) h3 h4 hno)
    clear hno hb2'
    go_wp2_with (first | (go_at_call 15; (with_reducible refine (HRB.out).mono ?_); rintro e w3 ⟨rfl, hb3⟩; have h3c := bc hb3; have h3f := bf hb3; have h3z := hb3.size; try simp only [World.size_alloc, World.size_drew] at h3z))
    go_loopw [54] (fun i wr => i = .int .i64 0 ∧ Below w3.heap.size w3 wr) (fun _ _ => 0)
    case atStart => exact ⟨rfl, Below.refl _ _⟩
    case round =>
      obtain ⟨rfl, hbr⟩ := hrel
      have HBR := Lib.hid (HW2.out.trans ((hb3.trans (hbr.mono hb3.size)).mono HW2.out.size))
      clear hbr
      go_wp2_with fail
      go_ret
      exact ⟨rfl, HBR.out⟩
  have d0 := cell_of_heap ((hoth _ (by omega) (by omega)).trans E0.out) 0
  have d1 := cell_of_heap ((hoth _ (by omega) (by omega)).trans E1.out) 0
  have d2 := cell_of_heap ((hoth _ (by omega) (by omega)).trans E2.out) 0
  have d3 := cell_of_heap ((hoth _ (by omega) (by omega)).trans E3.out) 0
  simp only [List.getElem?_toArray, List.getElem?_cons_zero] at d0 d1 d2 d3
  have HW2 := Lib.hid hb2'
  have HRB := Lib.hid (sread_some a n c bs j N K w2 (HH.out.below HW2.out) HL.out hn hc h2 (by omega) h3 h4 hok)
  obtain ⟨hM, hS, hfit⟩ := stake_len (keys := K) hok
  have HG := Lib.hid hG
  have HOW := Lib.hid hown
  have HFT := Lib.hid hfit
  clear hok hG hown hoth hfit hb2'
  generalize skM bs j K = M at *
  generalize skS bs j = S at *
  go_wp2_with fail
  refine HRB.out.mono ?_
  rintro e w5 ⟨g, vs, rfl, hown5, hro5, hb5⟩
  have HO5 := Lib.hid hown5
  have HR5 := Lib.hid hro5
  have HW5 := Lib.hid (HW2.out.trans (hb5.mono HW2.out.size))
  have HG5 := Lib.hid ((hb5.block g4 (by omega)).trans HG.out)
  have HS5 := Lib.hid (owns_below HOW.out hb5 (Nat.le_refl _))
  have hz5 : g4 < w5.heap.size := by have := hb5.size; omega
  clear hown5 hro5 hb5 d0 d1 d2 d3 HRB
  go_wp2_with fail
  go_loopw [54] (SRowsRel w5 M) (fun i _ => M - (intOf i).toNat)
  case atStart => exact ⟨0, Nat.zero_le _, rfl, Below.refl _ _⟩
  case round =>
    obtain ⟨i, hi, rfl, hbr⟩ := hrel
    have HBR := Lib.hid hbr
    have HBX := Lib.hid (HW5.out.trans (hbr.mono HW5.out.size))
    have c4 := cell_of_heap ((hbr.block g4 hz5).trans HG5.out) 0
    simp only [List.getElem?_toArray, List.getElem?_cons_zero] at c4
    have l4 : g4 < wr.heap.size := by have := hbr.size; omega
    clear hbr
    by_cases hlt : i < M
    · have HLT := Lib.hid hlt
      have hO7 := owns_below HO5.out HBR.out (Nat.le_refl _)
      have hvl : vs.length = M := by simpa using hO7.1
      obtain ⟨a', c', hv, ho', hc1, hc2⟩ := (HR5.out.below HBR.out) i _ (List.getElem?_eq_getElem (by omega))
      have hrc := (hO7.cellAt i (by omega)).trans (List.getElem?_eq_getElem (by omega))
      rw [hv] at hrc
      have hgr := (hO7.lt _ rfl).2
      obtain ⟨gs, v, rfl, _, hgv, hgc⟩ := slice_cell (owns_below HS5.out HBR.out (Nat.le_refl _)) i hlt
      rw [strsV_get bs j S M i hlt] at hgv
      cases hgv
      have hgsl := (cell_lt hgc)
      simp only at hgsl
      obtain ⟨q, hq⟩ : ∃ q, q = j + 10 + i * S := ⟨_, rfl⟩
      have hft := HFT.out i hlt
      rw [← hq] at hgc ho' hft
      have hBL : (rowB bs q S).length = S := by rw [rowB, List.length_take, List.length_drop]; omega
      have hs1 : ∀ p : Wld wr [], (convert 22 9 (.slice a' S c')).run Try.prog p.val = .ok (.string (str (rowB bs q S))) p.val := fun p => run_str Try.underlying22 Try.underlying5 Try.underlying9 (has_wld (has_of_owns ho') p) hBL
      have hMi : decide ((M : Int) ≤ (i : Int)) = false := by simp; omega
      have hMn : decide (M ≤ i) = false := by simp; omega
      clear hO7 ho' hv hvl hq hft
      generalize str (rowB bs q S) = st at *
      go_wp2_with fail
      refine wp_region_tree (.step 0 (.step 1 (.step 2 (.step 3 (.step 4 (.step 5 (.step 6 (.step 7 (.step 8 (.step 9 (.step 10 (.step 11 (.step 12 .nil))))))))))))) (by kernel_rfl) (by kernel_rfl) (by kernel_rfl) (by kernel_rfl) (by intro _ _ d_ _ _ h_; cases d_ <;> first | exact h_ | (dsimp +zetaDelta only at h_ ⊢; exact h_)) (fun w' => ∃ p : Wld wr [], w' = p.val) (wld_start _ _) ?_
      have hG_ := @wldC wr
      (refine tree_quiet (by simp only [List.getElem?_toArray, List.getElem?_cons_succ, List.getElem?_cons_zero]; rfl) (by rfl) (by rfl) (fun K_ hK_ => ?_); go_big_quiet_op; refine hK_ _ ?_; clear hK_ K_)
      (refine tree_quiet (by simp only [List.getElem?_toArray, List.getElem?_cons_succ, List.getElem?_cons_zero]; rfl) (by rfl) (by rfl) (fun K_ hK_ => ?_); go_big_quiet_op; refine hK_ _ ?_; clear hK_ K_)
      (refine tree_quiet (by simp only [List.getElem?_toArray, List.getElem?_cons_succ, List.getElem?_cons_zero]; rfl) (by rfl) (by rfl) (fun K_ hK_ => ?_); go_big_quiet_op; refine hK_ _ ?_; clear hK_ K_)
      (refine tree_quiet (by simp only [List.getElem?_toArray, List.getElem?_cons_succ, List.getElem?_cons_zero]; rfl) (by rfl) (by rfl) (fun K_ hK_ => ?_); go_big_quiet_op; refine hK_ _ ?_; clear hK_ K_)
      (refine tree_quiet (by simp only [List.getElem?_toArray, List.getElem?_cons_succ, List.getElem?_cons_zero]; rfl) (by rfl) (by rfl) (fun K_ hK_ => ?_); go_big_quiet_op; refine hK_ _ ?_; clear hK_ K_)
      (refine tree_quiet (by simp only [List.getElem?_toArray, List.getElem?_cons_succ, List.getElem?_cons_zero]; rfl) (by rfl) (by rfl) (fun K_ hK_ => ?_); go_big_quiet_op; refine hK_ _ ?_; clear hK_ K_)
      (refine tree_quiet (by simp only [List.getElem?_toArray, List.getElem?_cons_succ, List.getElem?_cons_zero]; rfl) (by rfl) (by rfl) (fun K_ hK_ => ?_); go_big_quiet_op; refine hK_ _ ?_; clear hK_ K_)
      (refine tree_quiet (by simp only [List.getElem?_toArray, List.getElem?_cons_succ, List.getElem?_cons_zero]; rfl) (by rfl) (by rfl) (fun K_ hK_ => ?_); go_big_quiet_op; refine hK_ _ ?_; clear hK_ K_)
      (refine tree_quiet (by simp only [List.getElem?_toArray, List.getElem?_cons_succ, List.getElem?_cons_zero]; rfl) (by rfl) (by rfl) (fun K_ hK_ => ?_); go_big_quiet_op; refine hK_ _ ?_; clear hK_ K_)
      (refine tree_quiet (by simp only [List.getElem?_toArray, List.getElem?_cons_succ, List.getElem?_cons_zero]; rfl) (by rfl) (by rfl) (fun K_ hK_ => ?_); go_big_quiet_op; refine hK_ _ ?_; clear hK_ K_)
      (refine tree_quiet (by simp only [List.getElem?_toArray, List.getElem?_cons_succ, List.getElem?_cons_zero]; rfl) (by rfl) (by rfl) (fun K_ hK_ => ?_); go_big_quiet_op; refine hK_ _ ?_; clear hK_ K_)
      (refine tree_quiet (by simp only [List.getElem?_toArray, List.getElem?_cons_succ, List.getElem?_cons_zero]; rfl) (by rfl) (by rfl) (fun K_ hK_ => ?_); go_big_quiet_op; refine hK_ _ ?_; clear hK_ K_)
      (refine tree_quiet (by simp only [List.getElem?_toArray, List.getElem?_cons_succ, List.getElem?_cons_zero]; rfl) (by rfl) (by rfl) (fun K_ hK_ => ?_); go_big_quiet_op; refine hK_ _ ?_; clear hK_ K_)
      refine tree_nil ?_
      clear hG_
      go_wp2_with fail
      go_roundw
      case rel => exact ⟨i + 1, HLT.out, by go_num, HBR.out.drew⟩
      case measure => simp [intOf]; have := HLT.out; omega
    · obtain rfl : i = M := by omega
      go_wp2_with fail
      go_ret
      exact ⟨rfl, HBX.out⟩
end Go.Proofs.Ytgfhmpcfpjioaaa
