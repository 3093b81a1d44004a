
/- The contract of seek.Take. Conditions: as many bytes as the slice says; need at least 2, keys at least 1, and need at least twice keys. -/
import Derived.Test.YthjnpfhcjacibaaSEnd
namespace Go.Proofs.Ythjnpfhcjacibaa
open Go.RowKit

def skS (bs : List UInt8) (k : Nat) : Nat := num bs k 2
def skN (bs : List UInt8) (k : Nat) : Nat := num bs (k + 2) 2
structure skOk (bs : List UInt8) (k need : Nat) : Prop where
  head : k + 10 ≤ bs.length
  size : need ≤ skS bs k
  rows : k + 10 + skN bs k * skS bs k ≤ bs.length
def rowB (bs : List UInt8) (p s : Nat) : List UInt8 := (bs.drop p).take s
def skEnd (bs : List UInt8) (k keys : Nat) : Bool := decide (0 < skN bs k) && allFF (rowB bs (k + 10 + (skN bs k - 1) * skS bs k) (skS bs k)) keys
def skM (bs : List UInt8) (k keys : Nat) : Nat := if skEnd bs k keys = true then skN bs k - 1 else skN bs k
def rowV (a : Option Addr) (c p s : Nat) : Value := .slice (adv a c p) s (c - p)
def rowsV (a : Option Addr) (c k S M : Nat) : List Value := (List.range M).map fun i => rowV a c (k + 10 + i * S) S
theorem view_info : (Try.prog.info? 43).map (fun i => (i.zero, i.size, i.bytes)) = some (some (.agg #[.slice none 0 0]), 1, 24) := by kernel_rfl
theorem adv_adv (a : Option Addr) (c p q : Nat) (h : p + q < c) : adv (adv a c p) (c - p) q = adv a c (p + q) := by
  unfold adv
  rw [if_neg (by omega), if_neg (by omega), if_neg (by omega)]
  cases a with
  | none => rfl
  | some x =>
    obtain ⟨b, o, s⟩ := x
    simp only [Option.map_some, Option.some.injEq, Addr.add]
    by_cases h1 : p = 0 <;> by_cases h2 : q = 0 <;> simp [h1, h2, Nat.add_assoc]
def zerosV (m : Nat) : List Value := List.replicate m (.slice none 0 0)
theorem made_views (n : Nat) : (madeCells (Value.agg #[.slice none 0 0]).cells (n * 1)).toList = zerosV n := by
  apply List.ext_getElem?
  intro j
  simp only [madeCells, Value.cells, zerosV]
  by_cases h : j < n
  · simp [h, Nat.mod_one]
  · simp [h]
theorem zerosV_succ (m : Nat) : zerosV (m + 1) = .slice none 0 0 :: zerosV m := rfl
def STakeRel (W : World) (g g5 : Nat) (a : Option Addr) (c k S M : Nat) (V : Value) (i : Value) (wr : World) : Prop :=
  ∃ j, j ≤ M ∧ i = .int .i64 (j : Nat) ∧ wr.ownsRow W.heap.size 43 1 (.slice (some ⟨g, 0, none⟩) M M) M (rowsV a c k S j ++ zerosV (M - j)) ∧ wr.cell? ⟨g5, 0, none⟩ = some V ∧ Below W.heap.size W wr
def STakeIs (bs : List UInt8) (a : Option Addr) (c : Nat) (k : Int) (need keys : Nat) (w : World) (e : Ending) (w' : World) : Prop :=
  ((∃ j g : Nat, k = (j : Nat) ∧ skOk bs j need ∧ e = .returned (.slice (some ⟨g, 0, none⟩) (skM bs j keys) (skM bs j keys)) ∧ w'.ownsRow w.heap.size 43 1 (.slice (some ⟨g, 0, none⟩) (skM bs j keys) (skM bs j keys)) (skM bs j keys) (rowsV a c j (skS bs j) (skM bs j keys))) ∨
    ((∀ j : Nat, k = (j : Nat) → ¬ skOk bs j need) ∧ e = .panicked thrown)) ∧ Below w.heap.size w w'

theorem stake_step {w wr w' : World} {g5 gm k S M j c : Nat} {a : Option Addr} {V i : Value} (hlt : k < M) (hi : i = .int .i64 ((k + 1 : Nat) : Int)) (hO : wr.ownsRow w.heap.size 43 1 (.slice (some ⟨gm, 0, none⟩) M M) M (rowsV a c j S k ++ zerosV (M - k)))
    (d5 : wr.cell? ⟨g5, 0, none⟩ = some V) (hb : Below w.heap.size w wr) (hb6 : Below w.heap.size wr w') (hb7 : Below wr.heap.size wr w') (h5 : g5 < gm) (hg : w.heap.size ≤ gm) :
    STakeRel w gm g5 a c j S M V i (w'.setCell ⟨gm, k, none⟩ (rowV a c (j + 10 + k * S) S)) := by
  have h1 := owns_below hO hb7 (Nat.le_refl _)
  refine ⟨k + 1, hlt, hi, ?_, ?_, bset (hb.trans hb6) hg _⟩
  · refine owns_eq (h1.stored k (rowV a c (j + 10 + k * S) S)).1 ?_
    obtain ⟨m, hm⟩ : ∃ m, M - k = m + 1 := ⟨M - k - 1, by omega⟩
    have hl : (rowsV a c j S k).length = k := by simp [rowsV]
    rw [hm, zerosV_succ, List.set_append_right _ _ (by omega), hl, Nat.sub_self, List.set_cons_zero, show M - (k + 1) = m by omega]
    simp [rowsV, List.range_succ]
  · rw [cell_other _ (by simp; omega)]
    exact (hb7.cell (p := ⟨g5, 0, none⟩) (cell_lt d5)).trans d5

set_option maxRecDepth 100000 in
set_option maxHeartbeats 1600000 in
theorem stake_any (a : Option Addr) (n c : Nat) (bs : List UInt8) (k : Int) (need keys : Nat) (w : World) (h : Has w a (bytesV bs)) (hl : bs.length = n) (hn : n ≤ c) (hc : c ≤ maxLen) (hk : -9223372036854775808 ≤ k ∧ k ≤ 9223372036854775807)
    (h2 : 2 ≤ need) (hn63 : need ≤ 9223372036854775807) (h1 : 1 ≤ keys) (hkn : 2 * keys ≤ need) :
    Calls Try.prog 30 #[.agg #[.slice a n c], .int .i64 k, .int .i64 (need : Nat), .int .i64 (keys : Nat)] w (STakeIs bs a c k need keys w) := by
  have HH := Lib.hid h
  have HL := Lib.hid hl
  have hcm := hc
  unfold maxLen at hcm
  clear h hl
  have hAC := allocC
  have hAF := allocF
  obtain ⟨hk1, hk2⟩ := hk
  by_cases hin : 0 ≤ k ∧ k + 10 ≤ n
  case neg =>
    have HCB := Lib.hid (fun W => cut_bad a n c k 10 W (by omega) hn hc)
    have HNO := Lib.hid (show ∀ j : Nat, k = (j : Nat) → ¬ skOk bs j need from fun j hj ho => hin (by have := ho.head; rw [HL.out] at this; omega))
    clear hin
    go_enter Try.func30, Try.ntmps30
    go_wp2_with (first | (go_at_call 27; (with_reducible refine (HCB.out _).mono ?_); rintro e w1 ⟨rfl, hb1⟩; have h1c := bc hb1; have h1f := bf hb1; have h1z := hb1.size; try simp only [World.size_alloc, World.size_drew] at h1z))
    exact ⟨rfl, .inr ⟨HNO.out, rfl⟩, (by repeat (first | with_reducible exact brefl _ | with_reducible assumption | (with_reducible refine bset ?_ (by first | (simp; done) | (simp; omega)) _) | with_reducible refine balloc ?_ _ | with_reducible refine bdrew ?_ _ | with_reducible refine bdrew1 ?_ | with_reducible refine bthen ?_ (by assumption) | with_reducible refine Below.trans ?_ (by assumption) | exact brefl _ | assumption | refine balloc ?_ _ | refine bdrew ?_ _ | refine bdrew1 ?_ | refine bthen ?_ (by assumption) | refine Below.trans ?_ (by assumption) | (refine bset ?_ (by first | (simp; done) | (simp; omega)) _)))⟩
  obtain ⟨hk0, hkn'⟩ := hin
  obtain ⟨j, rfl⟩ : ∃ j : Nat, k = j := ⟨k.toNat, by omega⟩
  have hjn : j + 10 ≤ n := by omega
  have HC1 := Lib.hid (fun W => cut_z a n c j 10 (j : Int) 10 rfl rfl W hjn hn hc)
  have hS2 := num2_lt bs j
  have hN2 := num2_lt bs (j + 2)
  have HR10 := (HH.out.adv c j (by rw [bytesV_length, HL.out]; exact hn)).take 10
  rw [bytesV_drop, bytesV_take] at HR10
  have HRL : ((bs.drop j).take 10).length = 10 := by rw [List.length_take, List.length_drop, HL.out]; omega
  have hnum0 : num ((bs.drop j).take 10) 0 2 = num bs j 2 := by rw [num_take _ _ _ (by omega), num_drop]; rfl
  have hnum2 : num ((bs.drop j).take 10) 2 2 = num bs (j + 2) 2 := by rw [num_take _ _ _ (by omega), num_drop]
  have hu0 := fun W hw => u16_z (adv a c j) 10 (c - j) 0 0 rfl ((bs.drop j).take 10) W hw HRL (by omega) (by omega) (by unfold maxLen; omega)
  have hu2 := fun W hw => u16_z (adv a c j) 10 (c - j) 2 2 rfl ((bs.drop j).take 10) W hw HRL (by omega) (by omega) (by unfold maxLen; omega)
  rw [hnum0] at hu0
  rw [hnum2] at hu2
  have HU0 := Lib.hid hu0
  have HU2 := Lib.hid hu2
  have HR := Lib.hid HR10
  have HSS := Lib.hid (show skS bs j = num bs j 2 from rfl)
  have HNN := Lib.hid (show skN bs j = num bs (j + 2) 2 from rfl)
  clear hu0 hu2 HR10 HRL hnum0 hnum2
  generalize num bs j 2 = S at *
  generalize num bs (j + 2) 2 = N at *
  go_enter Try.func30, Try.ntmps30
  go_wp2_with (first | (go_at_call 27; (with_reducible refine (HC1.out _).mono ?_); rintro e w1 ⟨rfl, hb1⟩; have h1c := bc hb1; have h1f := bf hb1; have h1z := hb1.size; try simp only [World.size_alloc, World.size_drew] at h1z))
  obtain ⟨V, hV⟩ : ∃ V, V = w1.alloc (Obj.cells #[.slice (adv a c j) 10 (c - j)] 43) := ⟨_, rfl⟩
  have c4 : V.cell? ⟨w.heap.size, 0, none⟩ = some (.slice a n c) := by
    rw [hV, hAC, if_neg (by omega), h1c, if_pos (by simp)]; simp [hAC]
  have c9 : V.cell? ⟨w1.heap.size, 0, none⟩ = some (.slice (adv a c j) 10 (c - j)) := by rw [hV]; simp [hAC]
  have hbV : Below w.heap.size w V := by rw [hV]; exact (by repeat (first | with_reducible exact brefl _ | with_reducible assumption | (with_reducible refine bset ?_ (by first | (simp; done) | (simp; omega)) _) | with_reducible refine balloc ?_ _ | with_reducible refine bdrew ?_ _ | with_reducible refine bdrew1 ?_ | with_reducible refine bthen ?_ (by assumption) | with_reducible refine Below.trans ?_ (by assumption) | exact brefl _ | assumption | refine balloc ?_ _ | refine bdrew ?_ _ | refine bdrew1 ?_ | refine bthen ?_ (by assumption) | refine Below.trans ?_ (by assumption) | (refine bset ?_ (by first | (simp; done) | (simp; omega)) _)))
  have hzV : V.heap.size = w1.heap.size + 1 := by rw [hV]; simp
  rw [← hV]
  clear hV h1c h1f hb1
  generalize hg9 : w1.heap.size = g9 at *
  have HBV := Lib.hid hbV
  have hg4l : w.heap.size < V.heap.size := by omega
  have hg9l : g9 < V.heap.size := by omega
  have h49 : w.heap.size < g9 := by omega
  clear hbV hg9
  refine wp_region_tree (.step 0 (.step 2 (.step 1 (.narrow (.step 3 (.narrow (.step 4 (.step 5 .nil)))))))) (by kernel_rfl) (by kernel_rfl) (by kernel_rfl) (by kernel_rfl) (by intro _ _ d_ _ _ h_; cases d_ <;> first | exact h_ | (dsimp +zetaDelta only at h_ ⊢; exact h_)) (fun w' => ∃ p : Wld V [], w' = p.val) (wld_start _ _) ?_
  have hG_ := @wldC V
  (refine tree_quiet (by simp only [List.getElem?_toArray, List.getElem?_cons_succ, List.getElem?_cons_zero]; rfl) (by rfl) (by rfl) (fun K_ hK_ => ?_); go_big_quiet_op; refine hK_ _ ?_; clear hK_ K_)
  (refine tree_quiet (by simp only [List.getElem?_toArray, List.getElem?_cons_succ, List.getElem?_cons_zero]; rfl) (by rfl) (by rfl) (fun K_ hK_ => ?_); go_big_quiet_op; refine hK_ _ ?_; clear hK_ K_)
  (refine tree_run (by simp only [List.getElem?_toArray, List.getElem?_cons_succ, List.getElem?_cons_zero]; rfl) (by rfl) (by rfl) (fun K_ hK_ => ?_); have HK_ := Lib.hid hK_; clear hK_; go_wp2_with (first | (go_at_call 28; (with_reducible refine (HU0.out _ (HR.out.below (HBV.out.trans (Below.mono (show Below V.heap.size V _ from (by repeat (first | with_reducible exact brefl _ | with_reducible assumption | (with_reducible refine bset ?_ (by first | (simp; done) | (simp; omega)) _) | with_reducible refine balloc ?_ _ | with_reducible refine bdrew ?_ _ | with_reducible refine bdrew1 ?_ | with_reducible refine bthen ?_ (by assumption) | with_reducible refine Below.trans ?_ (by assumption) | exact brefl _ | assumption | refine balloc ?_ _ | refine bdrew ?_ _ | refine bdrew1 ?_ | refine bthen ?_ (by assumption) | refine Below.trans ?_ (by assumption) | (refine bset ?_ (by first | (simp; done) | (simp; omega)) _)))) HBV.out.size)))).mono ?_); rintro e wa ⟨rfl, hba⟩; have hac := bc hba; have haf := bf hba; have haz := hba.size; try simp only [World.size_alloc, World.size_drew] at haz) | (go_at_call 28; (with_reducible refine (HU2.out _ (HR.out.below (HBV.out.trans (Below.mono (show Below V.heap.size V _ from (by repeat (first | with_reducible exact brefl _ | with_reducible assumption | (with_reducible refine bset ?_ (by first | (simp; done) | (simp; omega)) _) | with_reducible refine balloc ?_ _ | with_reducible refine bdrew ?_ _ | with_reducible refine bdrew1 ?_ | with_reducible refine bthen ?_ (by assumption) | with_reducible refine Below.trans ?_ (by assumption) | exact brefl _ | assumption | refine balloc ?_ _ | refine bdrew ?_ _ | refine bdrew1 ?_ | refine bthen ?_ (by assumption) | refine Below.trans ?_ (by assumption) | (refine bset ?_ (by first | (simp; done) | (simp; omega)) _)))) HBV.out.size)))).mono ?_); rintro e wb ⟨rfl, hbb⟩; have hbc := bc hbb; have hbf := bf hbb; have hbz := hbb.size; try simp only [World.size_alloc, World.size_drew] at hbz)); refine HK_.out _ _ (wld_of (by repeat (first | with_reducible exact same_below (brefl _) | with_reducible exact same_below (bdrew1 (brefl _)) | with_reducible assumption | with_reducible refine same_drew ?_ | (with_reducible refine same_set ?_ (by first | (left; simp; done) | (right; simp; done) | (right; simp; omega)) _) | with_reducible refine same_then ?_ (by assumption) | with_reducible refine same_alloc ?_ _ | exact same_below (brefl _) | exact same_realloc (by simp) | exact same_below (bdrew1 (brefl _)) | assumption | refine same_drew ?_ | refine same_then ?_ (by assumption) | refine same_alloc ?_ _ | (refine same_set ?_ (by first | (left; simp; done) | (right; simp; done) | (right; simp; omega)) _)))) ?_; clear HK_)
  refine tree_move (by repeat (first | with_reducible exact same_below (brefl _) | with_reducible exact same_below (bdrew1 (brefl _)) | with_reducible assumption | with_reducible refine same_drew ?_ | (with_reducible refine same_set ?_ (by first | (left; simp; done) | (right; simp; done) | (right; simp; omega)) _) | with_reducible refine same_then ?_ (by assumption) | with_reducible refine same_alloc ?_ _ | exact same_below (brefl _) | exact same_realloc (by simp) | exact same_below (bdrew1 (brefl _)) | assumption | refine same_drew ?_ | refine same_then ?_ (by assumption) | refine same_alloc ?_ _ | (refine same_set ?_ (by first | (left; simp; done) | (right; simp; done) | (right; simp; omega)) _))) ?_; clear hG_; intro hG_
  (refine tree_run (by simp only [List.getElem?_toArray, List.getElem?_cons_succ, List.getElem?_cons_zero]; rfl) (by rfl) (by rfl) (fun K_ hK_ => ?_); have HK_ := Lib.hid hK_; clear hK_; go_wp2_with (first | (go_at_call 28; (with_reducible refine (HU0.out _ (HR.out.below (HBV.out.trans (Below.mono (show Below V.heap.size V _ from (by repeat (first | with_reducible exact brefl _ | with_reducible assumption | (with_reducible refine bset ?_ (by first | (simp; done) | (simp; omega)) _) | with_reducible refine balloc ?_ _ | with_reducible refine bdrew ?_ _ | with_reducible refine bdrew1 ?_ | with_reducible refine bthen ?_ (by assumption) | with_reducible refine Below.trans ?_ (by assumption) | exact brefl _ | assumption | refine balloc ?_ _ | refine bdrew ?_ _ | refine bdrew1 ?_ | refine bthen ?_ (by assumption) | refine Below.trans ?_ (by assumption) | (refine bset ?_ (by first | (simp; done) | (simp; omega)) _)))) HBV.out.size)))).mono ?_); rintro e wa ⟨rfl, hba⟩; have hac := bc hba; have haf := bf hba; have haz := hba.size; try simp only [World.size_alloc, World.size_drew] at haz) | (go_at_call 28; (with_reducible refine (HU2.out _ (HR.out.below (HBV.out.trans (Below.mono (show Below V.heap.size V _ from (by repeat (first | with_reducible exact brefl _ | with_reducible assumption | (with_reducible refine bset ?_ (by first | (simp; done) | (simp; omega)) _) | with_reducible refine balloc ?_ _ | with_reducible refine bdrew ?_ _ | with_reducible refine bdrew1 ?_ | with_reducible refine bthen ?_ (by assumption) | with_reducible refine Below.trans ?_ (by assumption) | exact brefl _ | assumption | refine balloc ?_ _ | refine bdrew ?_ _ | refine bdrew1 ?_ | refine bthen ?_ (by assumption) | refine Below.trans ?_ (by assumption) | (refine bset ?_ (by first | (simp; done) | (simp; omega)) _)))) HBV.out.size)))).mono ?_); rintro e wb ⟨rfl, hbb⟩; have hbc := bc hbb; have hbf := bf hbb; have hbz := hbb.size; try simp only [World.size_alloc, World.size_drew] at hbz)); refine HK_.out _ _ (wld_of (by repeat (first | with_reducible exact same_below (brefl _) | with_reducible exact same_below (bdrew1 (brefl _)) | with_reducible assumption | with_reducible refine same_drew ?_ | (with_reducible refine same_set ?_ (by first | (left; simp; done) | (right; simp; done) | (right; simp; omega)) _) | with_reducible refine same_then ?_ (by assumption) | with_reducible refine same_alloc ?_ _ | exact same_below (brefl _) | exact same_realloc (by simp) | exact same_below (bdrew1 (brefl _)) | assumption | refine same_drew ?_ | refine same_then ?_ (by assumption) | refine same_alloc ?_ _ | (refine same_set ?_ (by first | (left; simp; done) | (right; simp; done) | (right; simp; omega)) _)))) ?_; clear HK_)
  refine tree_move (by repeat (first | with_reducible exact same_below (brefl _) | with_reducible exact same_below (bdrew1 (brefl _)) | with_reducible assumption | with_reducible refine same_drew ?_ | (with_reducible refine same_set ?_ (by first | (left; simp; done) | (right; simp; done) | (right; simp; omega)) _) | with_reducible refine same_then ?_ (by assumption) | with_reducible refine same_alloc ?_ _ | exact same_below (brefl _) | exact same_realloc (by simp) | exact same_below (bdrew1 (brefl _)) | assumption | refine same_drew ?_ | refine same_then ?_ (by assumption) | refine same_alloc ?_ _ | (refine same_set ?_ (by first | (left; simp; done) | (right; simp; done) | (right; simp; omega)) _))) ?_; clear hG_; intro hG_
  (refine tree_quiet (by simp only [List.getElem?_toArray, List.getElem?_cons_succ, List.getElem?_cons_zero]; rfl) (by rfl) (by rfl) (fun K_ hK_ => ?_); go_big_quiet_op; refine hK_ _ ?_; clear hK_ K_)
  (refine tree_quiet (by simp only [List.getElem?_toArray, List.getElem?_cons_succ, List.getElem?_cons_zero]; rfl) (by rfl) (by rfl) (fun K_ hK_ => ?_); go_big_quiet_op; refine hK_ _ ?_; clear hK_ K_)
  refine tree_nil ?_
  clear hG_
  have hVb : Below V.heap.size V wb := (by repeat (first | with_reducible exact brefl _ | with_reducible assumption | (with_reducible refine bset ?_ (by first | (simp; done) | (simp; omega)) _) | with_reducible refine balloc ?_ _ | with_reducible refine bdrew ?_ _ | with_reducible refine bdrew1 ?_ | with_reducible refine bthen ?_ (by assumption) | with_reducible refine Below.trans ?_ (by assumption) | exact brefl _ | assumption | refine balloc ?_ _ | refine bdrew ?_ _ | refine bdrew1 ?_ | refine bthen ?_ (by assumption) | refine Below.trans ?_ (by assumption) | (refine bset ?_ (by first | (simp; done) | (simp; omega)) _)))
  have d4 := (hVb.cell (p := ⟨w.heap.size, 0, none⟩) hg4l).trans c4
  have hzb := hVb.size
  have hB2 := HBV.out.trans (hVb.mono HBV.out.size)
  have HB2 := Lib.hid hB2
  have hg4b : w.heap.size < wb.heap.size := by omega
  clear c4 c9 hVb hB2 hba hbb hac haf hbc hbf HU0 HU2 HR HBV
  rename_i wa_
  by_cases hsz : need ≤ S
  case neg =>
    have HNO := Lib.hid (show ∀ i : Nat, ((j : Nat) : Int) = (i : Nat) → ¬ skOk bs i need from fun i hi ho => hsz (by obtain rfl : j = i := (by omega); have := ho.size; rw [HSS.out] at this; exact this))
    go_wp2_with (first | (go_at_call 18; refine (need_f _ (by first | rfl | (simp; omega)) _).mono ?_; rintro e w_ ⟨rfl, rfl⟩))
    exact ⟨rfl, .inr ⟨HNO.out, rfl⟩, HB2.out⟩
  have hS0 : 0 < S := by omega
  have hfe : (N ≤ (n - (j + 10)) / S) ↔ j + 10 + N * S ≤ n := by
    rw [Nat.le_div_iff_mul_le hS0]; omega
  by_cases hfit : N ≤ (n - (j + 10)) / S
  case neg =>
    have HNO := Lib.hid (show ∀ i : Nat, ((j : Nat) : Int) = (i : Nat) → ¬ skOk bs i need from fun i hi ho => by
      obtain rfl : j = i := by omega
      have := ho.rows
      rw [HSS.out, HNN.out, HL.out] at this
      exact hfit (hfe.2 this))
    have HRB := Lib.hid (fun W => rows_bad a n c ((j : Int) + 10) (N : Nat) (S : Nat) W (by omega) (by omega) (by
      rintro ⟨_, _, _, _, hx | hx⟩
      · omega
      · rw [show ((j : Int) + 10).toNat = j + 10 by omega] at hx
        simp only [Int.toNat_natCast] at hx
        exact hfit hx) hn hc)
    clear hfit hfe
    go_wp2_with (first | (go_at_call 18; refine (need_t _ (by first | rfl | (simp; omega)) _).mono ?_; rintro e w_ ⟨rfl, rfl⟩) | (go_at_call 38; (with_reducible refine (HRB.out _).mono ?_); rintro e w3 ⟨rfl, hb3⟩; have h3c := bc hb3; have h3f := bf hb3; have h3z := hb3.size; try simp only [World.size_alloc, World.size_drew] at h3z))
    exact ⟨rfl, .inr ⟨HNO.out, rfl⟩, HB2.out.trans (hb3.mono (by omega))⟩
  have hfit2 := hfe.1 hfit
  have HRW := Lib.hid (fun W => rows_z a n c (j + 10) N S (N * S) ((j : Int) + 10) (N : Nat) (S : Nat) (by omega) rfl rfl W rfl (by omega) (.inr hfit) (by omega) (by omega) hn hc)
  have HOK := Lib.hid (show skOk bs j need from ⟨by rw [HL.out]; omega, by rw [HSS.out]; exact hsz, by rw [HSS.out, HNN.out, HL.out]; exact hfit2⟩)
  clear hfit hfe
  have HNS := Lib.hid (show N * S ≤ n from by omega)
  have hns : N * S ≤ n := HNS.out
  by_cases hN0 : 0 < N
  case neg =>
    have HM := Lib.hid (show skM bs j keys = N from by unfold skM skEnd; rw [HNN.out]; simp [hN0])
    go_wp2_with (first
      | (go_at_call 18; refine (need_t _ (by first | rfl | (simp; omega)) _).mono ?_; rintro e w_ ⟨rfl, rfl⟩)
      | (go_at_call 38; (with_reducible refine (HRW.out _).mono ?_); rintro e w3 ⟨rfl, hb3⟩; have h3c := bc hb3; have h3f := bf hb3; have h3z := hb3.size; try simp only [World.size_alloc, World.size_drew] at h3z)
      | (at_make; refine wpMake _ rfl _ _ 71 rfl w.heap.size 43 (.agg #[.slice none 0 0]) 1 24 Try.underlying71 view_info N rfl rfl (by omega) (by unfold maxLen; omega) (by first | omega | (simp; omega)) ?_; intro w4 hown hb4; have hz4 := hb4.size; (try simp only [World.size_alloc] at hz4); (try simp only [World.size_alloc] at hown); have HO := Lib.hid hown; have HB4 := Lib.hid hb4; clear hown hb4))
    have HBW := Lib.hid (show Below w.heap.size w w4 from by have hb4 := HB4.out; exact HB2.out.trans (Below.mono (show Below wb.heap.size wb w4 from (by repeat (first | with_reducible exact brefl _ | with_reducible assumption | (with_reducible refine bset ?_ (by first | (simp; done) | (simp; omega)) _) | with_reducible refine balloc ?_ _ | with_reducible refine bdrew ?_ _ | with_reducible refine bdrew1 ?_ | with_reducible refine bthen ?_ (by assumption) | with_reducible refine Below.trans ?_ (by assumption) | exact brefl _ | assumption | refine balloc ?_ _ | refine bdrew ?_ _ | refine bdrew1 ?_ | refine bthen ?_ (by assumption) | refine Below.trans ?_ (by assumption) | (refine bset ?_ (by first | (simp; done) | (simp; omega)) _)))) (by omega)))
    have c5 : w4.cell? ⟨w3.heap.size, 0, none⟩ = some (.slice (adv a c (j + 10)) (N * S) (c - (j + 10))) := (HB4.out.cell (p := ⟨w3.heap.size, 0, none⟩) (by simp; try omega)).trans (by simp [hAC])
    have hgm := (HO.out.lt _ rfl).2
    have hgn := (HO.out.lt _ rfl).1
    have g5l : w3.heap.size < w4.heap.size := by omega
    obtain ⟨gm, hgm'⟩ : ∃ gm, gm = w3.heap.size + 1 := ⟨_, rfl⟩
    rw [← hgm'] at HO hgm hgn ⊢
    have hg5m : w3.heap.size < gm := by omega
    clear HB4 h3c h3f hb3 hgm' hz4 
    generalize w3.heap.size = g5 at *
    go_loopw [50] (STakeRel w gm g5 a c j S N (.slice (adv a c (j + 10)) (N * S) (c - (j + 10)))) (fun i _ => N - (intOf i).toNat)
    case atStart => exact ⟨0, Nat.zero_le _, rfl, by have := HO.out; rw [made_views] at this; exact this, c5, HBW.out⟩
    case round =>
      obtain ⟨k, hkM, rfl, hown, d5, hbr⟩ := hrel
      have HO5 := Lib.hid hown
      have HBR := Lib.hid hbr
      have hzr := hbr.size
      clear hown hbr
      · obtain rfl : k = N := by omega
        go_wp2
        go_ret
        exact ⟨.inl ⟨j, gm, rfl, HOK.out, by rw [HM.out]; rfl, by rw [HM.out, HSS.out]; have := HO5.out; rw [Nat.sub_self, show zerosV 0 = [] from rfl, List.append_nil] at this; exact this⟩, HBR.out⟩
  obtain ⟨P, hP⟩ : ∃ P, P = N - 1 := ⟨_, rfl⟩
  have hP1 : P * S + S = N * S := by rw [← Nat.succ_mul]; congr 1; omega
  obtain ⟨q, hq⟩ : ∃ q, q = P * S := ⟨_, rfl⟩
  have HQ1 := Lib.hid (show IntKind.i64.wrap ((P : Int) * (S : Int)) = (q : Int) by rw [← Int.natCast_mul, ← hq]; exact IntWalk.i64_in _ (by omega))
  have HC5 := Lib.hid (fun W => cut_z (adv a c (j + 10)) (N * S) (c - (j + 10)) q S (q : Int) (S : Int) rfl rfl W (by omega) (by omega) (by unfold maxLen; omega))
  have hB := ((HH.out.adv c (j + 10 + q) (by rw [bytesV_length, HL.out]; exact hn)).take S)
  rw [bytesV_drop, bytesV_take] at hB
  have hBL : ((bs.drop (j + 10 + q)).take S).length = S := by rw [List.length_take, List.length_drop, HL.out]; omega
  have hIE := fun W hw => isEnd_any (adv a c (j + 10 + q)) S (c - (j + 10 + q)) keys ((bs.drop (j + 10 + q)).take S) W hw hBL (by omega) (by omega) (by unfold maxLen; omega)
  have HA := Lib.hid (show Value.slice (adv (adv a c (j + 10)) (c - (j + 10)) q) S (c - (j + 10) - q) = .slice (adv a c (j + 10 + q)) S (c - (j + 10 + q)) by rw [adv_adv _ _ _ _ (by omega), Nat.sub_sub])
  rw [HA.out] at HC5
  have HROW := Lib.hid (show skEnd bs j keys = allFF ((bs.drop (j + 10 + q)).take S) keys from by unfold skEnd rowB; rw [HNN.out, HSS.out, decide_eq_true hN0, Bool.true_and, hq, hP])
  have HB5 := Lib.hid hB
  have HPP := Lib.hid hP
  have hPN : P < N := by omega
  have HCD := Lib.hid (show P + 1 = N by omega)
  have hN1 : (1 : Int) ≤ (N : Int) := by omega
  clear hB hBL HA hq hP1 hP
  generalize hE : allFF ((bs.drop (j + 10 + q)).take S) keys = E at *
  have HIE := Lib.hid hIE
  clear hIE hE
  cases E with
  | false =>
    have HM := Lib.hid (show skM bs j keys = N from by unfold skM; rw [HROW.out, HNN.out]; rfl)
    have hNP : (N : Int) - 1 = (P : Int) := by have := HCD.out; omega
    have hq1 := HQ1.out
    have hq2 : wrap64 ((P : Int) * (S : Int)) = (q : Int) := by rw [← IntWalk.i64_left]; exact hq1
    go_wp2_with (first
      | (go_at_call 18; refine (need_t _ (by first | rfl | (simp; omega)) _).mono ?_; rintro e w_ ⟨rfl, rfl⟩)
      | (go_at_call 38; (with_reducible refine (HRW.out _).mono ?_); rintro e w3 ⟨rfl, hb3⟩; have h3c := bc hb3; have h3f := bf hb3; have h3z := hb3.size; try simp only [World.size_alloc, World.size_drew] at h3z)
      | (go_at_call 27; (with_reducible refine (HC5.out _).mono ?_); rintro e w5 ⟨rfl, hb5⟩; have h5c := bc hb5; have h5f := bf hb5; have h5z := hb5.size; try simp only [World.size_alloc, World.size_drew] at h5z)
      )
    clear hNP hq1 hq2
    refine (HIE.out _ (HB5.out.below (HB2.out.trans (Below.mono (show Below wb.heap.size wb _ from (by repeat (first | with_reducible exact brefl _ | with_reducible assumption | (with_reducible refine bset ?_ (by first | (simp; done) | (simp; omega)) _) | with_reducible refine balloc ?_ _ | with_reducible refine bdrew ?_ _ | with_reducible refine bdrew1 ?_ | with_reducible refine bthen ?_ (by assumption) | with_reducible refine Below.trans ?_ (by assumption) | exact brefl _ | assumption | refine balloc ?_ _ | refine bdrew ?_ _ | refine bdrew1 ?_ | refine bthen ?_ (by assumption) | refine Below.trans ?_ (by assumption) | (refine bset ?_ (by first | (simp; done) | (simp; omega)) _)))) (by omega))))).mono ?_
    rintro e w7 ⟨rfl, hb7⟩
    have h7c := bc hb7
    have h7f := bf hb7
    have h7z := hb7.size
    go_wp2_with (first
      | (at_make; refine wpMake _ rfl _ _ 71 rfl w.heap.size 43 (.agg #[.slice none 0 0]) 1 24 Try.underlying71 view_info N rfl rfl (by omega) (by unfold maxLen; omega) (by first | omega | (simp; omega)) ?_; intro w4 hown hb4; have hz4 := hb4.size; (try simp only [World.size_alloc] at hz4); (try simp only [World.size_alloc] at hown); have HO := Lib.hid hown; have HB4 := Lib.hid hb4; clear hown hb4))
    have HBW := Lib.hid (show Below w.heap.size w w4 from by have hb4 := HB4.out; exact HB2.out.trans (Below.mono (show Below wb.heap.size wb w4 from (by repeat (first | with_reducible exact brefl _ | with_reducible assumption | (with_reducible refine bset ?_ (by first | (simp; done) | (simp; omega)) _) | with_reducible refine balloc ?_ _ | with_reducible refine bdrew ?_ _ | with_reducible refine bdrew1 ?_ | with_reducible refine bthen ?_ (by assumption) | with_reducible refine Below.trans ?_ (by assumption) | exact brefl _ | assumption | refine balloc ?_ _ | refine bdrew ?_ _ | refine bdrew1 ?_ | refine bthen ?_ (by assumption) | refine Below.trans ?_ (by assumption) | (refine bset ?_ (by first | (simp; done) | (simp; omega)) _)))) (by omega)))
    have c5 : w4.cell? ⟨w3.heap.size, 0, none⟩ = some (.slice (adv a c (j + 10)) (N * S) (c - (j + 10))) := (HB4.out.cell (p := ⟨w3.heap.size, 0, none⟩) (by simp; try omega)).trans (by rw [h7c, if_pos (by omega), h5c, if_pos (by simp)]; simp [hAC])
    have hgm := (HO.out.lt _ rfl).2
    have hgn := (HO.out.lt _ rfl).1
    have g5l : w3.heap.size < w4.heap.size := by omega
    obtain ⟨gm, hgm'⟩ : ∃ gm, gm = w7.heap.size := ⟨_, rfl⟩
    rw [← hgm'] at HO hgm hgn ⊢
    have hg5m : w3.heap.size < gm := by omega
    clear HB4 h3c h3f hb3 hgm' hz4 h5c h5f hb5 h7c h7f hb7
    generalize w3.heap.size = g5 at *
    go_loopw [50] (STakeRel w gm g5 a c j S N (.slice (adv a c (j + 10)) (N * S) (c - (j + 10)))) (fun i _ => N - (intOf i).toNat)
    case atStart => exact ⟨0, Nat.zero_le _, rfl, by have := HO.out; rw [made_views] at this; exact this, c5, HBW.out⟩
    case round =>
      obtain ⟨k, hkM, rfl, hown, d5, hbr⟩ := hrel
      have HO5 := Lib.hid hown
      have HBR := Lib.hid hbr
      have hzr := hbr.size
      clear hown hbr
      by_cases hlt : k < N
      · have hks : k * S + S ≤ N * S := by rw [← Nat.succ_mul]; exact Nat.mul_le_mul_right _ (by omega)
        obtain ⟨q, hq⟩ : ∃ q, q = k * S := ⟨_, rfl⟩
        have HQ1 := Lib.hid (show IntKind.i64.wrap ((k : Int) * (S : Int)) = (q : Int) by rw [← Int.natCast_mul, ← hq]; exact IntWalk.i64_in _ (by omega))
        have HC := Lib.hid (fun W => cut_z (adv a c (j + 10)) (N * S) (c - (j + 10)) q S (q : Int) (S : Int) rfl rfl W (by omega) (by omega) (by unfold maxLen; omega))
        have HRV := Lib.hid (show Value.slice (adv (adv a c (j + 10)) (c - (j + 10)) q) S (c - (j + 10) - q) = rowV a c (j + 10 + k * S) S by rw [adv_adv _ _ _ _ (by omega), hq, rowV, Nat.sub_sub])
        have hgr := (HO5.out.lt _ rfl).2
        have hF := fun i => World.ownsRow.frozenAt HO5.out i
        have HCE := Lib.hid (own_cell HO5.out (j := k) (by omega))
        have h5r : g5 < wr.heap.size := cell_lt d5
        clear hq hks
        obtain ⟨x0, hx0⟩ := HCE.out
        have hq1 := HQ1.out
        have hq2 : wrap64 ((k : Int) * (S : Int)) = (q : Int) := by rw [← IntWalk.i64_left]; exact hq1
        go_wp2_with (first | (go_at_call 27; (with_reducible refine (HC.out _).mono ?_); rintro e w6 ⟨rfl, hb6⟩; have h6c := bc hb6; have h6f := bf hb6; have h6z := hb6.size; try simp only [World.size_alloc, World.size_drew] at h6z))
        clear hq1 hq2
        rw [HRV.out]
        go_roundw
        case rel => exact stake_step hlt (by go_num) HO5.out d5 HBR.out (hb6.mono hzr) hb6 hg5m hgn
        case measure => simp [intOf]; omega
      · obtain rfl : k = N := by omega
        go_wp2
        go_ret
        exact ⟨.inl ⟨j, gm, rfl, HOK.out, by rw [HM.out]; rfl, by rw [HM.out, HSS.out]; have := HO5.out; rw [Nat.sub_self, show zerosV 0 = [] from rfl, List.append_nil] at this; exact this⟩, HBR.out⟩
  | true =>
    have HM := Lib.hid (show skM bs j keys = P from by unfold skM; rw [HROW.out, HNN.out, HPP.out]; rfl)
    have hNP : (N : Int) - 1 = (P : Int) := by have := HCD.out; omega
    have hq1 := HQ1.out
    have hq2 : wrap64 ((P : Int) * (S : Int)) = (q : Int) := by rw [← IntWalk.i64_left]; exact hq1
    go_wp2_with (first
      | (go_at_call 18; refine (need_t _ (by first | rfl | (simp; omega)) _).mono ?_; rintro e w_ ⟨rfl, rfl⟩)
      | (go_at_call 38; (with_reducible refine (HRW.out _).mono ?_); rintro e w3 ⟨rfl, hb3⟩; have h3c := bc hb3; have h3f := bf hb3; have h3z := hb3.size; try simp only [World.size_alloc, World.size_drew] at h3z)
      | (go_at_call 27; (with_reducible refine (HC5.out _).mono ?_); rintro e w5 ⟨rfl, hb5⟩; have h5c := bc hb5; have h5f := bf hb5; have h5z := hb5.size; try simp only [World.size_alloc, World.size_drew] at h5z)
      )
    clear hq1 hq2
    refine (HIE.out _ (HB5.out.below (HB2.out.trans (Below.mono (show Below wb.heap.size wb _ from (by repeat (first | with_reducible exact brefl _ | with_reducible assumption | (with_reducible refine bset ?_ (by first | (simp; done) | (simp; omega)) _) | with_reducible refine balloc ?_ _ | with_reducible refine bdrew ?_ _ | with_reducible refine bdrew1 ?_ | with_reducible refine bthen ?_ (by assumption) | with_reducible refine Below.trans ?_ (by assumption) | exact brefl _ | assumption | refine balloc ?_ _ | refine bdrew ?_ _ | refine bdrew1 ?_ | refine bthen ?_ (by assumption) | refine Below.trans ?_ (by assumption) | (refine bset ?_ (by first | (simp; done) | (simp; omega)) _)))) (by omega))))).mono ?_
    rintro e w7 ⟨rfl, hb7⟩
    have h7c := bc hb7
    have h7f := bf hb7
    have h7z := hb7.size
    go_wp2_with (first
      | (at_make; refine wpMake _ rfl _ _ 71 rfl w.heap.size 43 (.agg #[.slice none 0 0]) 1 24 Try.underlying71 view_info P rfl rfl (by omega) (by unfold maxLen; omega) (by first | omega | (simp; omega)) ?_; intro w4 hown hb4; have hz4 := hb4.size; (try simp only [World.size_alloc] at hz4); (try simp only [World.size_alloc] at hown); have HO := Lib.hid hown; have HB4 := Lib.hid hb4; clear hown hb4))
    clear hNP
    have HBW := Lib.hid (show Below w.heap.size w w4 from by have hb4 := HB4.out; exact HB2.out.trans (Below.mono (show Below wb.heap.size wb w4 from (by repeat (first | with_reducible exact brefl _ | with_reducible assumption | (with_reducible refine bset ?_ (by first | (simp; done) | (simp; omega)) _) | with_reducible refine balloc ?_ _ | with_reducible refine bdrew ?_ _ | with_reducible refine bdrew1 ?_ | with_reducible refine bthen ?_ (by assumption) | with_reducible refine Below.trans ?_ (by assumption) | exact brefl _ | assumption | refine balloc ?_ _ | refine bdrew ?_ _ | refine bdrew1 ?_ | refine bthen ?_ (by assumption) | refine Below.trans ?_ (by assumption) | (refine bset ?_ (by first | (simp; done) | (simp; omega)) _)))) (by omega)))
    have c5 : w4.cell? ⟨w3.heap.size, 0, none⟩ = some (.slice (adv a c (j + 10)) (N * S) (c - (j + 10))) := (HB4.out.cell (p := ⟨w3.heap.size, 0, none⟩) (by simp; try omega)).trans (by rw [h7c, if_pos (by omega), h5c, if_pos (by simp)]; simp [hAC])
    have hgm := (HO.out.lt _ rfl).2
    have hgn := (HO.out.lt _ rfl).1
    have g5l : w3.heap.size < w4.heap.size := by omega
    obtain ⟨gm, hgm'⟩ : ∃ gm, gm = w7.heap.size := ⟨_, rfl⟩
    rw [← hgm'] at HO hgm hgn ⊢
    have hg5m : w3.heap.size < gm := by omega
    clear HB4 h3c h3f hb3 hgm' hz4 h5c h5f hb5 h7c h7f hb7
    generalize w3.heap.size = g5 at *
    go_loopw [50] (STakeRel w gm g5 a c j S P (.slice (adv a c (j + 10)) (N * S) (c - (j + 10)))) (fun i _ => P - (intOf i).toNat)
    case atStart => exact ⟨0, Nat.zero_le _, rfl, by have := HO.out; rw [made_views] at this; exact this, c5, HBW.out⟩
    case round =>
      obtain ⟨k, hkM, rfl, hown, d5, hbr⟩ := hrel
      have HO5 := Lib.hid hown
      have HBR := Lib.hid hbr
      have hzr := hbr.size
      clear hown hbr
      by_cases hlt : k < P
      · have hks : k * S + S ≤ N * S := by rw [← Nat.succ_mul]; exact Nat.mul_le_mul_right _ (by omega)
        obtain ⟨q, hq⟩ : ∃ q, q = k * S := ⟨_, rfl⟩
        have HQ1 := Lib.hid (show IntKind.i64.wrap ((k : Int) * (S : Int)) = (q : Int) by rw [← Int.natCast_mul, ← hq]; exact IntWalk.i64_in _ (by omega))
        have HC := Lib.hid (fun W => cut_z (adv a c (j + 10)) (N * S) (c - (j + 10)) q S (q : Int) (S : Int) rfl rfl W (by omega) (by omega) (by unfold maxLen; omega))
        have HRV := Lib.hid (show Value.slice (adv (adv a c (j + 10)) (c - (j + 10)) q) S (c - (j + 10) - q) = rowV a c (j + 10 + k * S) S by rw [adv_adv _ _ _ _ (by omega), hq, rowV, Nat.sub_sub])
        have hgr := (HO5.out.lt _ rfl).2
        have hF := fun i => World.ownsRow.frozenAt HO5.out i
        have HCE := Lib.hid (own_cell HO5.out (j := k) (by omega))
        have h5r : g5 < wr.heap.size := cell_lt d5
        clear hq hks
        obtain ⟨x0, hx0⟩ := HCE.out
        have hq1 := HQ1.out
        have hq2 : wrap64 ((k : Int) * (S : Int)) = (q : Int) := by rw [← IntWalk.i64_left]; exact hq1
        go_wp2_with (first | (go_at_call 27; (with_reducible refine (HC.out _).mono ?_); rintro e w6 ⟨rfl, hb6⟩; have h6c := bc hb6; have h6f := bf hb6; have h6z := hb6.size; try simp only [World.size_alloc, World.size_drew] at h6z))
        clear hq1 hq2
        rw [HRV.out]
        go_roundw
        case rel => exact stake_step hlt (by go_num) HO5.out d5 HBR.out (hb6.mono hzr) hb6 hg5m hgn
        case measure => simp [intOf]; omega
      · obtain rfl : k = P := by omega
        go_wp2
        go_ret
        exact ⟨.inl ⟨j, gm, rfl, HOK.out, by rw [HM.out]; rfl, by rw [HM.out, HSS.out]; have := HO5.out; rw [Nat.sub_self, show zerosV 0 = [] from rfl, List.append_nil] at this; exact this⟩, HBR.out⟩
end Go.Proofs.Ythjnpfhcjacibaa
