
/- The contract of seek.Read. Conditions: as many bytes as the slice says; all numbers within 64 bits. -/
import Derived.Test.YtgfhmpcfpjioaaaSTake
import Derived.Test.YtgfhmpcfpjioaaaTry
import Derived.Test.YtgfhmpcfpjioaaaKeptE
namespace Go.Proofs.Ytgfhmpcfpjioaaa
open Go.RowKit

theorem owns_set_ty {w : World} {b e s n g cap o : Nat} {xs : List Value} (h : w.ownsRow b e s (.slice (some ⟨g, 0, none⟩) n cap) n xs) {b2 e2 s2 n2 : Nat} {v2 : Value} {xs2 : List Value} (h2 : w.ownsRow b2 e2 s2 v2 n2 xs2) (he : e ≠ e2) (u : Value) : (w.setCell ⟨g, o, none⟩ u).ownsRow b2 e2 s2 v2 n2 xs2 := by
  rcases h.2 with ⟨hv, _⟩ | ⟨g', cap', cur, hv, _, hh, _⟩
  · cases hv
  · injection hv with h1
    injection h1 with h1
    injection h1 with h1 _ _
    subst h1
    exact set_owns u h2 (own_neE h2 hh he)
theorem stake_ok (a : Option Addr) (n c : Nat) (bs : List UInt8) (j need keys : Nat) (w : World) (h : Has w a (bytesV bs)) (hl : bs.length = n) (hn : n ≤ c) (hc : c ≤ maxLen)
    (h2 : 2 ≤ need) (hn63 : need ≤ 9223372036854775807) (h1 : 1 ≤ keys) (hkn : 2 * keys ≤ need) (hok : skOk bs j need) :
    Calls Try.prog 23 #[.agg #[.slice a n c], .int .i64 (j : Nat), .int .i64 (need : Nat), .int .i64 (keys : Nat)] w fun e w' => ∃ g, e = .returned (.slice (some ⟨g, 0, none⟩) (skM bs j keys) (skM bs j keys)) ∧ w'.ownsRow w.heap.size 49 1 (.slice (some ⟨g, 0, none⟩) (skM bs j keys) (skM bs j keys)) (skM bs j keys) (rowsV a c j (skS bs j) (skM bs j keys)) ∧ Below w.heap.size w w' := by
  have := hok.head
  have hm : c ≤ 9223372036854775807 := hc
  refine (stake_any a n c bs j need keys w h hl hn hc (by omega) h2 hn63 h1 hkn).mono ?_
  rintro e w' ⟨(⟨i, g, hi, _, he, ho⟩ | ⟨hno, _⟩), hb⟩
  · obtain rfl : j = i := by omega
    exact ⟨g, he, ho, hb⟩
  · exact absurd hok (hno j rfl)
theorem stake_bad (a : Option Addr) (n c : Nat) (bs : List UInt8) (k : Int) (need keys : Nat) (w : World) (h : Has w a (bytesV bs)) (hl : bs.length = n) (hn : n ≤ c) (hc : c ≤ maxLen) (hk : -9223372036854775808 ≤ k ∧ k ≤ 9223372036854775807)
    (h2 : 2 ≤ need) (hn63 : need ≤ 9223372036854775807) (h1 : 1 ≤ keys) (hkn : 2 * keys ≤ need) (hno : ∀ j : Nat, k = (j : Nat) → ¬ skOk bs j need) :
    Calls Try.prog 23 #[.agg #[.slice a n c], .int .i64 k, .int .i64 (need : Nat), .int .i64 (keys : Nat)] w fun e w' => e = .panicked thrown ∧ Below w.heap.size w w' := by
  refine (stake_any a n c bs k need keys w h hl hn hc hk h2 hn63 h1 hkn).mono ?_
  rintro e w' ⟨(⟨i, g, hi, hok, _, _⟩ | ⟨_, he⟩), hb⟩
  · exact absurd hok (hno i hi)
  · exact ⟨he, hb⟩
theorem stake_len {bs : List UInt8} {j need keys : Nat} (h : skOk bs j need) : skM bs j keys ≤ 65535 ∧ skS bs j ≤ 65535 ∧ ∀ i, i < skM bs j keys → j + 10 + i * skS bs j + skS bs j ≤ bs.length := by
  have h1 := num2_lt bs (j + 2)
  have h2 := num2_lt bs j
  have hM : skM bs j keys ≤ skN bs j := by unfold skM; split <;> omega
  refine ⟨by unfold skN at hM; omega, by unfold skS; omega, fun i hi => ?_⟩
  have h3 := h.rows
  have : i * skS bs j + skS bs j ≤ skN bs j * skS bs j := by rw [← Nat.succ_mul]; exact Nat.mul_le_mul_right _ (by omega)
  omega
theorem rowsV_get (a : Option Addr) (c k S M i : Nat) (h : i < M) : (rowsV a c k S M)[i]? = some (rowV a c (k + 10 + i * S) S) := by
  simp [rowsV, List.getElem?_map, List.getElem?_range h]

def Read1R (B : Nat) (w : World) (g4 : Nat) (a : Option Addr) (c : Nat) (bs : List UInt8) (k : Int) (need keys : Nat) (ok : Bool) (w' : World) : Prop :=
  (ok = true ∧ ∃ j g : Nat, k = (j : Nat) ∧ skOk bs j need ∧ w'.heap[g4]? = some (.cells #[.slice (some ⟨g, 0, none⟩) (skM bs j keys) (skM bs j keys)] 46 (0, 0)) ∧ w'.ownsRow w.heap.size 49 1 (.slice (some ⟨g, 0, none⟩) (skM bs j keys) (skM bs j keys)) (skM bs j keys) (rowsV a c j (skS bs j) (skM bs j keys)) ∧ Below B w w' ∧ w.heap.size ≤ w'.heap.size) ∨
  (ok = false ∧ (∀ j : Nat, k = (j : Nat) → ¬ skOk bs j need) ∧ Below w.heap.size w w')
theorem enter_sread1 (args : Array Value) (w : World) : (callFunc 39 args).run Try.prog w = .ok (.enter 39 args) w := by kernel_rfl

set_option maxRecDepth 100000 in
set_option maxHeartbeats 1600000 in
theorem sread1_any (B : Nat) (a : Option Addr) (n c : Nat) (bs : List UInt8) (k : Int) (need keys : Nat) (g0 g1 g2 g3 g4 : Nat) (x : Value) (w : World) (h : Has w a (bytesV bs)) (hl : bs.length = n) (hn : n ≤ c) (hc : c ≤ maxLen) (hk : -9223372036854775808 ≤ k ∧ k ≤ 9223372036854775807)
    (h2 : 2 ≤ need) (hn63 : need ≤ 9223372036854775807) (h1 : 1 ≤ keys) (hkn : 2 * keys ≤ need) (hB : B ≤ g4)
    (c0 : w.cell? ⟨g0, 0, none⟩ = some (.slice a n c)) (c1 : w.cell? ⟨g1, 0, none⟩ = some (.int .i64 k)) (c2 : w.cell? ⟨g2, 0, none⟩ = some (.int .i64 (need : Nat))) (c3 : w.cell? ⟨g3, 0, none⟩ = some (.int .i64 (keys : Nat)))
    (c4 : w.heap[g4]? = some (.cells #[x] 46 (0, 0))) :
    Calls Try.prog 39 #[.pointer (some ⟨g0, 0, none⟩), .pointer (some ⟨g1, 0, none⟩), .pointer (some ⟨g2, 0, none⟩), .pointer (some ⟨g3, 0, none⟩), .pointer (some ⟨g4, 0, none⟩)] w
      fun e w' => (e = .returned (.tuple #[]) ∧ Read1R B w g4 a c bs k need keys true w') ∨ (e = .panicked thrown ∧ Read1R B w g4 a c bs k need keys false w') := by
  have HH := Lib.hid h
  have HL := Lib.hid hl
  have C4 := Lib.hid c4
  have l0 := cell_lt c0
  have l1 := cell_lt c1
  have l2 := cell_lt c2
  have l3 := cell_lt c3
  have l4 := (Array.getElem?_eq_some_iff.1 c4).1
  simp only at l0 l1 l2 l3
  clear h hl c4
  obtain ⟨hk1, hk2⟩ := hk
  by_cases hok : ∃ j : Nat, k = (j : Nat) ∧ skOk bs j need
  · obtain ⟨j, rfl, hok⟩ := hok
    have HOK := Lib.hid hok
    have HT := Lib.hid (fun W hw => stake_ok a n c bs j need keys W hw HL.out hn hc h2 hn63 h1 hkn hok)
    clear hok
    go_enter Try.func39, Try.ntmps39
    go_wp2_with fail
    refine wp_region_last (.step 0 (.step 2 (.step 3 (.step 4 (.step 1 (.step 5 (.step 6 .nil))))))) 6 (by kernel_rfl) (by kernel_rfl) (by kernel_rfl) (by kernel_rfl) (by kernel_rfl) (by intro _ _ d_ _ _ h_; cases d_ <;> first | exact h_ | (dsimp +zetaDelta only at h_ ⊢; exact h_)) (fun w' => ∃ p : Wld w [], w' = p.val) (wld_start _ _) ?_
    have hG_ := @wldC w
    (refine z_quiet (by simp only [List.getElem?_toArray, List.getElem?_cons_succ, List.getElem?_cons_zero]; rfl) (by rfl) (by rfl) (fun K_ hK_ => ?_); go_big_quiet_op; refine hK_ _ ?_; clear hK_ K_)
    (refine z_quiet (by simp only [List.getElem?_toArray, List.getElem?_cons_succ, List.getElem?_cons_zero]; rfl) (by rfl) (by rfl) (fun K_ hK_ => ?_); go_big_quiet_op; refine hK_ _ ?_; clear hK_ K_)
    (refine z_quiet (by simp only [List.getElem?_toArray, List.getElem?_cons_succ, List.getElem?_cons_zero]; rfl) (by rfl) (by rfl) (fun K_ hK_ => ?_); go_big_quiet_op; refine hK_ _ ?_; clear hK_ K_)
    (refine z_quiet (by simp only [List.getElem?_toArray, List.getElem?_cons_succ, List.getElem?_cons_zero]; rfl) (by rfl) (by rfl) (fun K_ hK_ => ?_); go_big_quiet_op; refine hK_ _ ?_; clear hK_ K_)
    (refine z_run (by simp only [List.getElem?_toArray, List.getElem?_cons_succ, List.getElem?_cons_zero]; rfl) (by rfl) (by rfl) (fun K_ hK_ => ?_); have HK_ := Lib.hid hK_; clear hK_; go_wp2_with (first | (go_at_call 24; (with_reducible refine (of_any _ _ _ _).mono ?_); rintro e wa ⟨rfl, hba⟩; have hac := bc hba; have haf := bf hba; have haz := hba.size; try simp only [World.size_alloc, World.size_drew] at haz) | (go_at_call 23; (with_reducible refine (HT.out _ (HH.out.below (by exact (by repeat (first | exact brefl _ | assumption | refine balloc ?_ _ | refine bdrew ?_ _ | refine bdrew1 ?_ | refine bthen ?_ (by assumption) | refine Below.trans ?_ (by assumption) | (refine bset ?_ (by first | (simp; done) | (simp; omega)) _)))))).mono ?_); rintro e wb ⟨g, rfl, hown, hbb⟩; have hbz := hbb.size; have HOW := Lib.hid hown; have hB4 : Below w.heap.size w wb := (by repeat (first | exact brefl _ | assumption | refine balloc ?_ _ | refine bdrew ?_ _ | refine bdrew1 ?_ | refine bthen ?_ (by assumption) | refine Below.trans ?_ (by assumption) | (refine bset ?_ (by first | (simp; done) | (simp; omega)) _))); have c4b := (hB4.block g4 l4).trans C4.out; have q4 := cell_of_heap c4b 0; have f4 := froz_of_heap c4b 0; have HC4 := Lib.hid c4b; have HBB := Lib.hid hB4; clear hown hbb hB4 c4b)); refine HK_.out _ _ (wld_of (by repeat (first | exact same_below (brefl _) | exact same_realloc (by simp) | exact same_below (bdrew1 (brefl _)) | assumption | refine same_drew ?_ | refine same_then ?_ (by assumption) | refine same_alloc ?_ _ | (refine same_set ?_ (by first | (left; simp; done) | (right; simp; done) | (right; simp; omega)) _)))) ?_; clear HK_)
    (refine z_run (by simp only [List.getElem?_toArray, List.getElem?_cons_succ, List.getElem?_cons_zero]; rfl) (by rfl) (by rfl) (fun K_ hK_ => ?_); have HK_ := Lib.hid hK_; clear hK_; go_wp2_with (first | (go_at_call 24; (with_reducible refine (of_any _ _ _ _).mono ?_); rintro e wa ⟨rfl, hba⟩; have hac := bc hba; have haf := bf hba; have haz := hba.size; try simp only [World.size_alloc, World.size_drew] at haz) | (go_at_call 23; (with_reducible refine (HT.out _ (HH.out.below (by exact (by repeat (first | exact brefl _ | assumption | refine balloc ?_ _ | refine bdrew ?_ _ | refine bdrew1 ?_ | refine bthen ?_ (by assumption) | refine Below.trans ?_ (by assumption) | (refine bset ?_ (by first | (simp; done) | (simp; omega)) _)))))).mono ?_); rintro e wb ⟨g, rfl, hown, hbb⟩; have hbz := hbb.size; have HOW := Lib.hid hown; have hB4 : Below w.heap.size w wb := (by repeat (first | exact brefl _ | assumption | refine balloc ?_ _ | refine bdrew ?_ _ | refine bdrew1 ?_ | refine bthen ?_ (by assumption) | refine Below.trans ?_ (by assumption) | (refine bset ?_ (by first | (simp; done) | (simp; omega)) _))); have c4b := (hB4.block g4 l4).trans C4.out; have q4 := cell_of_heap c4b 0; have f4 := froz_of_heap c4b 0; have HC4 := Lib.hid c4b; have HBB := Lib.hid hB4; clear hown hbb hB4 c4b)); refine HK_.out _ _ (wld_of (by repeat (first | exact same_below (brefl _) | exact same_realloc (by simp) | exact same_below (bdrew1 (brefl _)) | assumption | refine same_drew ?_ | refine same_then ?_ (by assumption) | refine same_alloc ?_ _ | (refine same_set ?_ (by first | (left; simp; done) | (right; simp; done) | (right; simp; omega)) _)))) ?_; clear HK_)
    (refine z_last (by simp only [List.getElem?_toArray, List.getElem?_cons_succ, List.getElem?_cons_zero]; rfl) (by rfl) (by rfl) (by rfl) (fun K_ hK_ => ?_); have HK_ := Lib.hid hK_; clear hK_; go_wp2_with (first | (go_at_call 24; (with_reducible refine (of_any _ _ _ _).mono ?_); rintro e wa ⟨rfl, hba⟩; have hac := bc hba; have haf := bf hba; have haz := hba.size; try simp only [World.size_alloc, World.size_drew] at haz) | (go_at_call 23; (with_reducible refine (HT.out _ (HH.out.below (by exact (by repeat (first | exact brefl _ | assumption | refine balloc ?_ _ | refine bdrew ?_ _ | refine bdrew1 ?_ | refine bthen ?_ (by assumption) | refine Below.trans ?_ (by assumption) | (refine bset ?_ (by first | (simp; done) | (simp; omega)) _)))))).mono ?_); rintro e wb ⟨g, rfl, hown, hbb⟩; have hbz := hbb.size; have HOW := Lib.hid hown; have hB4 : Below w.heap.size w wb := (by repeat (first | exact brefl _ | assumption | refine balloc ?_ _ | refine bdrew ?_ _ | refine bdrew1 ?_ | refine bthen ?_ (by assumption) | refine Below.trans ?_ (by assumption) | (refine bset ?_ (by first | (simp; done) | (simp; omega)) _))); have c4b := (hB4.block g4 l4).trans C4.out; have q4 := cell_of_heap c4b 0; have f4 := froz_of_heap c4b 0; have HC4 := Lib.hid c4b; have HBB := Lib.hid hB4; clear hown hbb hB4 c4b)); refine HK_.out _ _ ?_; clear HK_)
    refine z_nil ?_
    clear hG_
    go_end0
    have hgl : wa.heap.size ≤ g := (HOW.out.lt _ rfl).1
    exact .inl ⟨rfl, .inl ⟨rfl, j, g, rfl, HOK.out, set_heap_at _ HC4.out, owns_mono (set_owns _ HOW.out (by simp [Value.ownBlock]; omega)) (by omega), (HBB.out.mono (Nat.le_of_lt (by omega))).setCell (p := ⟨g4, 0, none⟩) hB _, by simp; omega⟩⟩
  · have HNO := Lib.hid (show ∀ j : Nat, k = (j : Nat) → ¬ skOk bs j need from fun j hj ho => hok ⟨j, hj, ho⟩)
    have HT := Lib.hid (fun W hw => stake_bad a n c bs k need keys W hw HL.out hn hc ⟨hk1, hk2⟩ h2 hn63 h1 hkn HNO.out)
    clear hok
    go_enter Try.func39, Try.ntmps39
    go_wp2_with fail
    refine wp_region_tree (.step 0 (.step 2 (.step 3 (.step 4 (.step 1 (.step 5 (.step 6 .nil))))))) (by kernel_rfl) (by kernel_rfl) (by kernel_rfl) (by kernel_rfl) (by intro _ _ d_ _ _ h_; cases d_ <;> first | exact h_ | (dsimp +zetaDelta only at h_ ⊢; exact h_)) (fun w' => ∃ p : BelW w.heap.size w, w' = p.val) (bel_start _ _) ?_
    have hG_ := @belC w.heap.size w
    (refine tree_quiet (by simp only [List.getElem?_toArray, List.getElem?_cons_succ, List.getElem?_cons_zero]; rfl) (by rfl) (by rfl) (fun K_ hK_ => ?_); go_big_quiet_op; refine hK_ _ ?_; clear hK_ K_)
    (refine tree_quiet (by simp only [List.getElem?_toArray, List.getElem?_cons_succ, List.getElem?_cons_zero]; rfl) (by rfl) (by rfl) (fun K_ hK_ => ?_); go_big_quiet_op; refine hK_ _ ?_; clear hK_ K_)
    (refine tree_quiet (by simp only [List.getElem?_toArray, List.getElem?_cons_succ, List.getElem?_cons_zero]; rfl) (by rfl) (by rfl) (fun K_ hK_ => ?_); go_big_quiet_op; refine hK_ _ ?_; clear hK_ K_)
    (refine tree_quiet (by simp only [List.getElem?_toArray, List.getElem?_cons_succ, List.getElem?_cons_zero]; rfl) (by rfl) (by rfl) (fun K_ hK_ => ?_); go_big_quiet_op; refine hK_ _ ?_; clear hK_ K_)
    (refine tree_run (by simp only [List.getElem?_toArray, List.getElem?_cons_succ, List.getElem?_cons_zero]; rfl) (by rfl) (by rfl) (fun K_ hK_ => ?_); have HK_ := Lib.hid hK_; clear hK_; go_wp2_with (first | (go_at_call 24; (with_reducible refine (of_any _ _ _ _).mono ?_); rintro e wa ⟨rfl, hba⟩; have hac := bc hba; have haf := bf hba; have haz := hba.size; try simp only [World.size_alloc, World.size_drew] at haz) | (go_at_call 23; (with_reducible refine (HT.out _ (HH.out.below (by exact (by repeat (first | exact brefl _ | assumption | refine balloc ?_ _ | refine bdrew ?_ _ | refine bdrew1 ?_ | refine bthen ?_ (by assumption) | refine Below.trans ?_ (by assumption) | (refine bset ?_ (by first | (simp; done) | (simp; omega)) _)))))).mono ?_); rintro e wb ⟨rfl, hbb⟩; have hbc := bc hbb; have hbf := bf hbb; have hbz := hbb.size; try simp only [World.size_alloc, World.size_drew] at hbz)); refine HK_.out _ _ (bel_of (by repeat (first | exact Below.refl _ _ | assumption | refine bdrew1q ?_ | refine balloc ?_ _ | refine bthen ?_ (by assumption) | refine Below.trans ?_ (by assumption)))) ?_; clear HK_)
    (refine tree_run (by simp only [List.getElem?_toArray, List.getElem?_cons_succ, List.getElem?_cons_zero]; rfl) (by rfl) (by rfl) (fun K_ hK_ => ?_); have HK_ := Lib.hid hK_; clear hK_; go_wp2_with (first | (go_at_call 24; (with_reducible refine (of_any _ _ _ _).mono ?_); rintro e wa ⟨rfl, hba⟩; have hac := bc hba; have haf := bf hba; have haz := hba.size; try simp only [World.size_alloc, World.size_drew] at haz) | (go_at_call 23; (with_reducible refine (HT.out _ (HH.out.below (by exact (by repeat (first | exact brefl _ | assumption | refine balloc ?_ _ | refine bdrew ?_ _ | refine bdrew1 ?_ | refine bthen ?_ (by assumption) | refine Below.trans ?_ (by assumption) | (refine bset ?_ (by first | (simp; done) | (simp; omega)) _)))))).mono ?_); rintro e wb ⟨rfl, hbb⟩; have hbc := bc hbb; have hbf := bf hbb; have hbz := hbb.size; try simp only [World.size_alloc, World.size_drew] at hbz)); exact ⟨rfl, .inr ⟨rfl, .inr ⟨rfl, HNO.out, by repeat (first | exact Below.refl _ _ | assumption | refine bdrew1q ?_ | refine balloc ?_ _ | refine bthen ?_ (by assumption) | refine Below.trans ?_ (by assumption))⟩⟩⟩)

def badArgs (need keys : Int) : Prop := need < 2 ∨ keys < 1 ∨ need / 2 < keys
/-- The rows' bytes, each as new memory. -/
def RowsOwn (B : Nat) (bs : List UInt8) (j S : Nat) (vs : List Value) (w : World) : Prop :=
  ∀ i v, vs[i]? = some v → ∃ a' c', v = .slice a' S c' ∧ w.ownsRow B 5 1 (.slice a' S c') S (bytesV (rowB bs (j + 10 + i * S) S)) ∧ S ≤ c' ∧ c' ≤ maxLen
def SReadIs (bs : List UInt8) (k need keys : Int) (w : World) (e : Ending) (w' : World) : Prop :=
  ((badArgs need keys ∧ e = .returned (.tuple #[.slice none 0 0, .int .i64 1])) ∨
   (¬ badArgs need keys ∧ (∀ j : Nat, k = (j : Nat) → ¬ skOk bs j need.toNat) ∧ e = .returned (.tuple #[.slice none 0 0, .int .i64 2])) ∨
   (¬ badArgs need keys ∧ ∃ j g : Nat, ∃ vs : List Value, k = (j : Nat) ∧ skOk bs j need.toNat ∧ e = .returned (.tuple #[.slice (some ⟨g, 0, none⟩) (skM bs j keys.toNat) (skM bs j keys.toNat), .int .i64 0]) ∧
     w'.ownsRow w.heap.size 22 1 (.slice (some ⟨g, 0, none⟩) (skM bs j keys.toNat) (skM bs j keys.toNat)) (skM bs j keys.toNat) vs ∧ RowsOwn w.heap.size bs j (skS bs j) vs w')) ∧ Below w.heap.size w w'

theorem bytesS_info : (Try.prog.info? 22).map (fun i => (i.zero, i.size, i.bytes)) = some (some (.slice none 0 0), 1, 24) := by kernel_rfl
theorem made_slices (n : Nat) : (madeCells (Value.slice none 0 0).cells (n * 1)).toList = zerosV n := by
  apply List.ext_getElem?
  intro j
  simp only [madeCells, Value.cells, zerosV]
  by_cases h : j < n
  · simp [h, Nat.mod_one]
  · simp [h]
theorem RowsOwn.below {B : Nat} {bs : List UInt8} {j S : Nat} {vs : List Value} {w w' : World} (h : RowsOwn B bs j S vs w) (hb : Below w.heap.size w w') : RowsOwn B bs j S vs w' := fun i v hv => by
  obtain ⟨a', c', rfl, h1, h2, h3⟩ := h i v hv
  exact ⟨a', c', rfl, owns_below h1 hb (Nat.le_refl _), h2, h3⟩
def SRdRel (w : World) (bs : List UInt8) (a : Option Addr) (c j S M go g G : Nat) (i : Value) (wr : World) : Prop :=
  ∃ (k : Nat) (vs : List Value), k ≤ M ∧ i = .int .i64 (k : Nat) ∧ vs.length = k ∧ wr.ownsRow w.heap.size 22 1 (.slice (some ⟨go, 0, none⟩) M M) M (vs ++ zerosV (M - k)) ∧ RowsOwn w.heap.size bs j S vs wr ∧
    wr.heap[G]? = some (.cells #[.slice (some ⟨g, 0, none⟩) M M] 46 (0, 0)) ∧ wr.ownsRow w.heap.size 49 1 (.slice (some ⟨g, 0, none⟩) M M) M (rowsV a c j S M) ∧ Below w.heap.size w wr
theorem srd_step {w wr w' : World} {bs : List UInt8} {a a' : Option Addr} {c c' j S M go g G k : Nat} {vs : List Value} {i : Value} (hlt : k < M) (hi : i = .int .i64 ((k + 1 : Nat) : Int)) (hl : vs.length = k) (hO : wr.ownsRow w.heap.size 22 1 (.slice (some ⟨go, 0, none⟩) M M) M (vs ++ zerosV (M - k)))
    (hR : RowsOwn w.heap.size bs j S vs wr) (hG : wr.heap[G]? = some (.cells #[.slice (some ⟨g, 0, none⟩) M M] 46 (0, 0))) (hV : wr.ownsRow w.heap.size 49 1 (.slice (some ⟨g, 0, none⟩) M M) M (rowsV a c j S M)) (hb : Below w.heap.size w wr)
    (hb' : Below wr.heap.size wr w') (hn : w'.ownsRow wr.heap.size 5 1 (.slice a' S c') S (bytesV (rowB bs (j + 10 + k * S) S))) (h1 : S ≤ c') (h2 : c' ≤ maxLen) :
    SRdRel w bs a c j S M go g G i (w'.setCell ⟨go, k, none⟩ (.slice a' S c')) := by
  have hO' := owns_below hO hb' (Nat.le_refl _)
  have hgo : w.heap.size ≤ go := (hO.lt _ rfl).1
  have hGl := (Array.getElem?_eq_some_iff.1 hG).1
  refine ⟨k + 1, vs ++ [.slice a' S c'], hlt, hi, by simp [hl], ?_, ?_, ?_, ?_, bset (hb.trans (hb'.mono hb.size)) hgo _⟩
  · refine owns_eq (hO'.stored k (.slice a' S c')).1 ?_
    obtain ⟨m, hm⟩ : ∃ m, M - k = m + 1 := ⟨M - k - 1, by omega⟩
    rw [hm, zerosV_succ, List.set_append_right _ _ (by omega), hl, Nat.sub_self, List.set_cons_zero, show M - (k + 1) = m by omega]
    simp
  · intro i v hv
    rcases Nat.lt_or_ge i k with g | g
    · rw [List.getElem?_append_left (by omega)] at hv
      obtain ⟨a2, c2, rfl, k1, k2, k3⟩ := hR.below hb' i v hv
      exact ⟨a2, c2, rfl, owns_set_ty hO' k1 (by decide) _, k2, k3⟩
    · rw [List.getElem?_append_right (by omega)] at hv
      have : i = k := by
        rcases Nat.lt_or_ge k i with g2 | g2
        · rw [List.getElem?_eq_none (by simp; omega)] at hv; cases hv
        · omega
      subst this
      rw [hl, Nat.sub_self] at hv
      cases hv
      exact ⟨a', c', rfl, owns_mono (owns_set_ty hO' hn (by decide) _) hb.size, h1, h2⟩
  · rw [set_heap_other _ (by
      intro hE
      subst hE
      rcases hO.2 with ⟨hv, _⟩ | ⟨g', _, _, hv, _, hh, _⟩
      · cases hv
      · injection hv with e1 _ _
        injection e1 with e1
        injection e1 with e1 _ _
        subst e1
        rw [hG] at hh
        injection hh with hh
        injection hh with _ h2 _
        exact absurd h2 (by decide))]
    exact (hb'.block G hGl).trans hG
  · exact owns_set_ty hO' (owns_below hV hb' (Nat.le_refl _)) (by decide) _

set_option maxRecDepth 100000 in
set_option maxHeartbeats 3200000 in
theorem sread_any (a : Option Addr) (n c : Nat) (bs : List UInt8) (k need keys : Int) (w : World) (h : Has w a (bytesV bs)) (hl : bs.length = n) (hn : n ≤ c) (hc : c ≤ maxLen) (hk : -9223372036854775808 ≤ k ∧ k ≤ 9223372036854775807)
    (hne : -9223372036854775808 ≤ need ∧ need ≤ 9223372036854775807) (hke : -9223372036854775808 ≤ keys ∧ keys ≤ 9223372036854775807) :
    Calls Try.prog 15 #[.slice a n c, .int .i64 k, .int .i64 need, .int .i64 keys] w (SReadIs bs k need keys w) := by
  have HH := Lib.hid h
  have HL := Lib.hid hl
  clear h hl
  have hAC := allocC
  have hAF := allocF
  have hmf : ∀ (fn : Fn) (first cap : Array Value) (w : World), (Instr.makeFunc fn first cap).run Try.prog w = .ok (.func fn first cap) w := fun _ _ _ _ => rfl
  obtain ⟨hn1, hn2⟩ := hne
  obtain ⟨hk1, hk2⟩ := hke
  by_cases hb1 : need < 2
  · go_enter Try.func15, Try.ntmps15
    go_wp2_with fail
    go_ret2
    exact ⟨.inl ⟨.inl hb1, rfl⟩, (by repeat (first | exact brefl _ | assumption | refine balloc ?_ _ | refine bdrew ?_ _ | refine bdrew1 ?_ | refine bthen ?_ (by assumption) | refine Below.trans ?_ (by assumption) | (refine bset ?_ (by first | (simp; done) | (simp; omega)) _)))⟩
  by_cases hb2 : keys < 1
  · go_enter Try.func15, Try.ntmps15
    go_wp2_with fail
    go_ret2
    exact ⟨.inl ⟨.inr (.inl hb2), rfl⟩, (by repeat (first | exact brefl _ | assumption | refine balloc ?_ _ | refine bdrew ?_ _ | refine bdrew1 ?_ | refine bthen ?_ (by assumption) | refine Below.trans ?_ (by assumption) | (refine bset ?_ (by first | (simp; done) | (simp; omega)) _)))⟩
  by_cases hb3 : need / 2 < keys
  · have h0 : 2 ≤ need := by omega
    go_enter Try.func15, Try.ntmps15
    go_wp2_with fail
    go_ret2
    exact ⟨.inl ⟨.inr (.inr hb3), rfl⟩, (by repeat (first | exact brefl _ | assumption | refine balloc ?_ _ | refine bdrew ?_ _ | refine bdrew1 ?_ | refine bthen ?_ (by assumption) | refine Below.trans ?_ (by assumption) | (refine bset ?_ (by first | (simp; done) | (simp; omega)) _)))⟩
  have HNB := Lib.hid (show ¬ badArgs need keys by unfold badArgs; omega)
  obtain ⟨N, rfl⟩ : ∃ N : Nat, need = N := ⟨need.toNat, by omega⟩
  obtain ⟨K, rfl⟩ : ∃ K : Nat, keys = K := ⟨keys.toNat, by omega⟩
  have h2 : 2 ≤ N := by omega
  have h3 : 1 ≤ K := by omega
  have h4 : 2 * K ≤ N := by omega
  go_enter Try.func15, Try.ntmps15
  go_wp2_with fail
  obtain ⟨W, hW⟩ : ∃ W, W = ((((w.alloc (Obj.cells #[.slice a n c] 22)).alloc (Obj.cells #[.int .i64 k] 3)).alloc (Obj.cells #[.int .i64 (N : Nat)] 3)).alloc (Obj.cells #[.int .i64 (K : Nat)] 3)).alloc (Obj.cells #[.slice none 0 0] 46) := ⟨_, rfl⟩
  have hb : Below w.heap.size w W := by rw [hW]; exact (by repeat (first | exact brefl _ | assumption | refine balloc ?_ _ | refine bdrew ?_ _ | refine bdrew1 ?_ | refine bthen ?_ (by assumption) | refine Below.trans ?_ (by assumption) | (refine bset ?_ (by first | (simp; done) | (simp; omega)) _)))
  have hz : W.heap.size = w.heap.size + 5 := by rw [hW]; simp
  have c0 : W.cell? ⟨w.heap.size, 0, none⟩ = some (.slice a n c) := by rw [hW]; simp [hAC]; rw [if_neg (by omega), if_neg (by omega), if_neg (by omega)]
  have c1 : W.cell? ⟨w.heap.size + 1, 0, none⟩ = some (.int .i64 k) := by rw [hW]; simp [hAC]
  have c2 : W.cell? ⟨w.heap.size + 1 + 1, 0, none⟩ = some (.int .i64 (N : Nat)) := by rw [hW]; simp [hAC]
  have c3 : W.cell? ⟨w.heap.size + 1 + 1 + 1, 0, none⟩ = some (.int .i64 (K : Nat)) := by rw [hW]; simp [hAC]
  have c4 : W.heap[w.heap.size + 1 + 1 + 1 + 1]? = some (.cells #[.slice none 0 0] 46 (0, 0)) := by
    rw [hW]
    have := heap_new (((((w.alloc (Obj.cells #[.slice a n c] 22)).alloc (Obj.cells #[.int .i64 k] 3)).alloc (Obj.cells #[.int .i64 (N : Nat)] 3)).alloc (Obj.cells #[.int .i64 (K : Nat)] 3))) (.slice none 0 0) 46
    simpa using this
  rw [← hW]
  clear hW
  have HB := Lib.hid hb
  clear hb
  have HT := Lib.hid (try_any 39 _ W (Read1R w.heap.size W (w.heap.size + 1 + 1 + 1 + 1) a c bs k N K) (enter_sread1 _)
    (sread1_any w.heap.size a n c bs k N K _ _ _ _ _ _ _ (HH.out.below HB.out) HL.out hn hc hk h2 (by omega) h3 h4 (by omega) c0 c1 c2 c3 c4))
  clear c0 c1 c2 c3 c4
  refine HT.out.mono ?_
  rintro r w2 ⟨ok, rfl, (⟨rfl, j, g, rfl, hok, hG, hown, hb2, hz2⟩ | ⟨rfl, hno, hb2⟩)⟩
  case inr =>
    have HNO := Lib.hid hno
    have HB2 := Lib.hid (HB.out.trans (hb2.mono HB.out.size))
    clear hno hb2 HT
    go_wp2
    go_ret2
    exact ⟨.inr (.inl ⟨HNB.out, HNO.out, rfl⟩), HB2.out⟩
  have hlen := stake_len (keys := K) hok
  obtain ⟨hM, hS, hfit⟩ := hlen
  have HOK := Lib.hid hok
  have HFT := Lib.hid hfit
  have HB2 := Lib.hid (HB.out.trans hb2)
  have HO2 := Lib.hid (owns_mono hown HB.out.size)
  have q10 := cell_of_heap hG 0
  simp only [List.getElem?_toArray, List.getElem?_cons_zero] at q10
  have HG := Lib.hid hG
  have hzw : w.heap.size + 5 ≤ w2.heap.size := by omega
  have HSS := Lib.hid (show skS bs j = skS bs j from rfl)
  have HMM := Lib.hid (show skM bs j K = skM bs j K from rfl)
  clear hok hfit hb2 hown hG HT
  generalize hMe : skM bs j K = M at *
  generalize hSe : skS bs j = S at *
  have HME := Lib.hid hMe
  have HSE := Lib.hid hSe
  clear hMe hSe HSS HMM
  go_wp2_with (first
    | (at_make; refine wpMake _ rfl _ _ 25 rfl w.heap.size 22 (.slice none 0 0) 1 24 Try.underlying25 bytesS_info M rfl rfl (by omega) (by unfold maxLen; omega) (by omega) ?_; intro w4 hown hb4; have hz4 := hb4.size; have q4 := (hb4.cell (p := ⟨w.heap.size + 1 + 1 + 1 + 1, 0, none⟩) (by show w.heap.size + 1 + 1 + 1 + 1 < w2.heap.size; omega)).trans q10; have HO := Lib.hid hown; have HB4 := Lib.hid hb4; clear hown hb4))
  have HG4 := Lib.hid ((HB4.out.block (w.heap.size + 1 + 1 + 1 + 1) (by omega)).trans HG.out)
  have HO4 := Lib.hid (owns_below HO2.out HB4.out (Nat.le_refl _))
  have HBW := Lib.hid (HB2.out.trans (HB4.out.mono (by omega)))
  clear q10 HG HO2 HB2 HB4
  generalize w2.heap.size = go at *
  generalize hGG : w.heap.size + 1 + 1 + 1 + 1 = G at *
  clear hGG
  go_loopw [32] (SRdRel w bs a c j S M go g G) (fun i _ => M - (intOf i).toNat)
  case atStart => exact ⟨0, [], Nat.zero_le _, rfl, rfl, by have := HO.out; rw [made_slices] at this; exact this, fun i v hv => by simp at hv, HG4.out, HO4.out, HBW.out⟩
  case round =>
    obtain ⟨i, vs, hiM, rfl, hvl, hown, hro, hG, hov, hbr⟩ := hrel
    have q5 := cell_of_heap hG 0
    simp only [List.getElem?_toArray, List.getElem?_cons_zero] at q5
    have HO5 := Lib.hid hown
    have HR5 := Lib.hid hro
    have HG5 := Lib.hid hG
    have HV5 := Lib.hid hov
    have HBR := Lib.hid hbr
    have HVL := Lib.hid hvl
    have hzr := hbr.size
    clear hown hro hG hov hbr hvl
    by_cases hlt : i < M
    · have hrv := (HV5.out.cellAt i (by omega)).trans (rowsV_get a c j S M i hlt)
      unfold rowV at hrv
      have hft := HFT.out i hlt
      have hB := ((HH.out.adv c (j + 10 + i * S) (by rw [bytesV_length, HL.out]; exact hn)).take S)
      rw [bytesV_drop, bytesV_take] at hB
      have hBL : (rowB bs (j + 10 + i * S) S).length = S := by rw [rowB, List.length_take, List.length_drop]; omega
      have HBY := Lib.hid (fun W hw => bytes_any (adv a c (j + 10 + i * S)) S (c - (j + 10 + i * S)) (rowB bs (j + 10 + i * S) S) W hw hBL (by omega))
      have HBB := Lib.hid hB
      have hF := fun o => World.ownsRow.frozenAt HO5.out o
      have hgr := (HO5.out.lt _ rfl).2
      have HCE := Lib.hid (own_cell HO5.out (j := i) (by omega))
      clear hB hBL hft
      obtain ⟨x0, hx0⟩ := HCE.out
      go_wp2_with (first | (go_at_call 25; (with_reducible refine (HBY.out _ (HBB.out.below HBR.out)).mono ?_); rintro e wb ⟨a', c', rfl, hob, k1, k2, k3, hbb⟩; have hbc := bc hbb; have hbf := bf hbb; have hbz := hbb.size; have HOB := Lib.hid hob; have HBBb := Lib.hid hbb; clear hob hbb k3))
      go_roundw
      case rel => exact srd_step hlt (by go_num) HVL.out HO5.out HR5.out HG5.out HV5.out HBR.out HBBb.out HOB.out k1 k2
      case measure => simp [intOf]; omega
    · obtain rfl : i = M := by omega
      have hz0 : vs ++ zerosV (i - i) = vs := by rw [Nat.sub_self]; simp [zerosV]
      have HO6 := Lib.hid (owns_eq HO5.out hz0)
      clear hz0
      go_wp2
      go_ret2
      refine ⟨.inr (.inr ⟨HNB.out, j, go, vs, rfl, HOK.out, ?_, ?_, ?_⟩), HBR.out⟩
      · show _ = Ending.returned (.tuple #[.slice (some ⟨go, 0, none⟩) (skM bs j K) (skM bs j K), .int .i64 0])
        rw [HME.out]; rfl
      · show wr.ownsRow w.heap.size 22 1 (.slice (some ⟨go, 0, none⟩) (skM bs j K) (skM bs j K)) (skM bs j K) vs
        rw [HME.out]; exact HO6.out
      · rw [HSE.out]; exact HR5.out
end Go.Proofs.Ytgfhmpcfpjioaaa
