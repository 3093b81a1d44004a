/- Contracts of ViewTries' closure: it counts what holds, up to the first that doesn't, and throws there. Conditions: the cells that it is handed. -/
import Derived.Test.YtfgkmgabldjpaaaLaw1
namespace Go.Proofs.Ytfgkmgabldjpaaa
open Go.RowKit

def boolsV (bs : List Bool) : List Value := bs.map Value.bool
/-- How many hold, ahead of the first that doesn't. -/
def lead : List Bool → Nat
  | [] => 0
  | b :: bs => if b then lead bs + 1 else 0
theorem lead_le : ∀ bs : List Bool, lead bs ≤ bs.length
  | [] => Nat.le_refl _
  | true :: bs => by have := lead_le bs; simp [lead]; omega
  | false :: bs => by simp [lead]
theorem lead_true : ∀ (bs : List Bool) (k : Nat), k < lead bs → bs[k]? = some true
  | [], k, h => by simp [lead] at h
  | true :: bs, 0, _ => rfl
  | true :: bs, k + 1, h => by simp [lead] at h; simpa using lead_true bs k h
  | false :: bs, k, h => by simp [lead] at h
theorem lead_false : ∀ (bs : List Bool), lead bs < bs.length → bs[lead bs]? = some false
  | [], h => by simp at h
  | true :: bs, h => by simp [lead] at h ⊢; simpa using lead_false bs h
  | false :: bs, _ => by simp [lead]
theorem bools_get {w : World} {a : Option Addr} {bs : List Bool} (h : Has w a (boolsV bs)) {k : Nat} {b : Bool} (hk : bs[k]? = some b) : ∃ g o, a = some ⟨g, o, none⟩ ∧ g < w.heap.size ∧ w.cell? ⟨g, o + k, none⟩ = some (.bool b) := by
  obtain ⟨g, o, ha, hg, hx⟩ := h.get (by
    have := (List.getElem?_eq_some_iff.1 hk).1
    simp [boolsV]
    omega)
  exact ⟨g, o, ha, hg, hx k _ (by simp [boolsV, hk])⟩

/-- A number's cell holds this, all else is as it was. -/
def NumAt (W : World) (g : Nat) (k : Nat) (w' : World) : Prop :=
  w'.heap.size = W.heap.size ∧ w'.cell? ⟨g, 0, none⟩ = some (.int .i64 k) ∧ w'.frozen? ⟨g, 0, none⟩ = false ∧ (∀ B, B ≤ g → B ≤ W.heap.size → Below B W w') ∧ ∀ b o, b ≠ g → w'.cell? ⟨b, o, none⟩ = W.cell? ⟨b, o, none⟩
theorem NumAt.set {W w' : World} {g k : Nat} (h : NumAt W g k w') (m : Nat) : NumAt W g m (w'.setCell ⟨g, 0, none⟩ (.int .i64 m)) := by
  obtain ⟨h1, h2, h3, h4, h5⟩ := h
  refine ⟨by simp [h1], World.cell?_setCell_same _ _ _ h2, by simpa using h3, fun B hB hW => (h4 B hB hW).setCell hB _, fun b o hb => ?_⟩
  rw [World.cell?_setCell_other _ _ _ _ (fun h => hb (by injection h with h; exact h.symm))]
  exact h5 b o hb

theorem fail_t (w : World) : Calls Try.prog 22 #[] w fun e w' => e = .panicked thrown ∧ w = w' := (fail_any w).mono fun _ _ h => ⟨h.1, h.2.symm⟩
def TriesRel (W : World) (g : Nat) (bs : List Bool) (i : Value) (w' : World) : Prop := ∃ k : Nat, k ≤ lead bs ∧ i = .int .i64 k ∧ NumAt W g k w'

set_option maxRecDepth 100000 in
set_option maxHeartbeats 800000 in
theorem tries1_any (a : Option Addr) (n c : Nat) (bs : List Bool) (f : Bool) (g0 g1 g2 : Nat) (w0 w : World) (h : Has w0 a (boolsV bs)) (hb : Below w0.heap.size w0 w) (hg : w0.heap.size ≤ g1) (hl : bs.length = n) (hn : n ≤ c) (hc : c ≤ maxLen) (hm : n ≤ 100)
    (n0 : ¬ g0 = g1) (n2 : ¬ g2 = g1)
    (c0 : w.cell? ⟨g0, 0, none⟩ = some (.slice a n c)) (c1 : w.cell? ⟨g1, 0, none⟩ = some (.int .i64 0)) (f1 : w.frozen? ⟨g1, 0, none⟩ = false) (c2 : w.cell? ⟨g2, 0, none⟩ = some (.bool f)) :
    Calls Try.prog 20 #[.pointer (some ⟨g0, 0, none⟩), .pointer (some ⟨g1, 0, none⟩), .pointer (some ⟨g2, 0, none⟩)] w fun e w' =>
      (e = .returned (.tuple #[]) ∧ (lead bs = n ∧ f = false) ∧ NumAt w g1 (lead bs) w') ∨ (e = .panicked thrown ∧ ¬ (lead bs = n ∧ f = false) ∧ NumAt w g1 (lead bs) w') := by
  have HH := Lib.hid h
  have HL := Lib.hid hl
  have HB := Lib.hid hb
  have hle : lead bs ≤ n := by have := lead_le bs; omega
  clear h hl hb
  have l1 := cell_lt c1
  simp only at l1
  go_enter Try.func20, Try.ntmps20
  go_wp2_with fail
  go_loopw [7] (TriesRel w g1 bs) (fun i _ => n - (intOf i).toNat)
  case atStart => exact ⟨0, Nat.zero_le _, rfl, rfl, c1, f1, fun B _ h => Below.refl _ _, fun _ _ _ => rfl⟩
  case round =>
    obtain ⟨k, hk, rfl, hN⟩ := hrel
    have HN := Lib.hid hN
    obtain ⟨hz, hc1, hf1, _, hoth⟩ := hN
    have HO := Lib.hid hoth
    clear hoth
    by_cases hlt : k < n
    · by_cases hld : k < lead bs
      · obtain ⟨b, o, rfl, hlb, hx⟩ := bools_get HH.out (lead_true bs k hld)
        have hbg : b < g1 := Nat.lt_of_lt_of_le hlb hg
        have hx' := ((HO.out b (o + k) (by omega)).trans (HB.out.cell (p := ⟨b, o + k, none⟩) hlb)).trans hx
        go_wp2_with (first | (go_at_call 21; refine (need_t _ rfl _).mono ?_; rintro e w_ ⟨rfl, rfl⟩))
        go_roundw
        case rel => exact ⟨k + 1, by omega, by go_num, HN.out.set _⟩
        case measure => simp [intOf]; omega
      · have hkl : k = lead bs := by omega
        obtain ⟨b, o, rfl, hlb, hx⟩ := bools_get HH.out (lead_false bs (by rw [HL.out]; omega))
        have hbg : b < g1 := Nat.lt_of_lt_of_le hlb hg
        rw [← hkl] at hx
        have hx' := ((HO.out b (o + k) (by omega)).trans (HB.out.cell (p := ⟨b, o + k, none⟩) hlb)).trans hx
        have HKL := Lib.hid hkl
        clear hkl
        go_wp2_with (first | (go_at_call 21; refine (need_f _ rfl _).mono ?_; rintro e w_ ⟨rfl, rfl⟩))
        exact ⟨rfl, .inr ⟨rfl, fun h => by have := HKL.out; omega, HKL.out ▸ HN.out⟩⟩
    · have hkl : k = lead bs := by omega
      have hg2 := (HO.out g2 0 n2).trans c2
      have HKL := Lib.hid hkl
      clear hkl
      cases f with
      | true =>
        go_wp2_with (first | (go_at_call 22; refine (fail_t _).mono ?_; rintro e w_ ⟨rfl, rfl⟩))
        exact ⟨rfl, .inr ⟨rfl, fun h => by simp at h, HKL.out ▸ HN.out⟩⟩
      | false =>
        go_wp2_with fail
        go_end0
        exact .inl ⟨rfl, by have := HKL.out; omega, HKL.out ▸ HN.out⟩

theorem enter_tries1 (args : Array Value) (w : World) : (callFunc 20 args).run Try.prog w = .ok (.enter 20 args) w := by kernel_rfl

def AllRel (bs : List Bool) (all i : Value) : Prop := ∃ k : Nat, k ≤ bs.length ∧ i = .int .i64 k ∧ all = .bool ((bs.take k).all id)
theorem all_lead : ∀ bs : List Bool, bs.all id = decide (lead bs = bs.length)
  | [] => rfl
  | true :: bs => by simp [lead, all_lead bs]
  | false :: bs => by simp [lead]
theorem all_take (bs : List Bool) (k : Nat) (b : Bool) (h : bs[k]? = some b) : (bs.take (k + 1)).all id = ((bs.take k).all id && b) := by
  rw [List.take_add_one, h]
  simp
def WantRel (bs : List Bool) (i : Value) : Prop := ∃ k : Nat, k ≤ lead bs ∧ i = .int .i64 k

set_option maxRecDepth 100000 in
set_option maxHeartbeats 1600000 in
theorem viewTries_walk (a : Option Addr) (n c : Nat) (bs : List Bool) (f : Bool) (w : World) (h : Has w a (boolsV bs)) (hl : bs.length = n) (hn : n ≤ c) (hc : c ≤ maxLen) :
    Calls Try.prog 6 #[.slice a n c, .bool f] w fun e w' => e = .returned (.bool true) ∧ Below w.heap.size w w' := by
  have hAC := allocC
  have hAF := allocF
  by_cases hbig : 100 < n
  · clear h hl
    unfold maxLen at hc
    go_enter Try.func6, Try.ntmps6
    go_wp2_with (first | (go_at_call 10; refine (speaks_any _).mono ?_; rintro e w1 ⟨rfl, hb1⟩; have h1c := bc hb1; have h1f := bf hb1; have h1z := hb1.size; try simp only [World.size_alloc, World.size_drew] at h1z))
    go_ret
    exact ⟨rfl, (by repeat (first | exact brefl _ | assumption | refine balloc ?_ _ | refine bdrew ?_ _ | refine bdrew1 ?_ | refine bthen ?_ (by assumption) | refine Below.trans ?_ (by assumption) | (refine bset ?_ (by first | (simp; done) | (simp; omega)) _)))⟩
  have HH := Lib.hid h
  have HL := Lib.hid hl
  have hle : lead bs ≤ n := by have := lead_le bs; omega
  clear h hl
  have hmf : ∀ (fn : Fn) (first cap : Array Value) (w : World), (Instr.makeFunc fn first cap).run Try.prog w = .ok (.func fn first cap) w := fun _ _ _ _ => rfl
  go_enter Try.func6, Try.ntmps6
  go_wp2_with (first | (go_at_call 10; refine (speaks_any _).mono ?_; rintro e w1 ⟨rfl, hb1⟩; have h1c := bc hb1; have h1f := bf hb1; have h1z := hb1.size; try simp only [World.size_alloc, World.size_drew] at h1z))
  clear h1c h1f
  obtain ⟨W, hW⟩ : ∃ W, W = w1.alloc (Obj.cells #[.int .i64 0] 3) := ⟨_, rfl⟩
  have hb : Below w.heap.size w W := by rw [hW]; exact (by repeat (first | exact brefl _ | assumption | refine balloc ?_ _ | refine bdrew ?_ _ | refine bdrew1 ?_ | refine bthen ?_ (by assumption) | refine Below.trans ?_ (by assumption) | (refine bset ?_ (by first | (simp; done) | (simp; omega)) _)))
  have hz : W.heap.size = w1.heap.size + 1 := by rw [hW]; simp
  have c0 : W.cell? ⟨w.heap.size, 0, none⟩ = some (.slice a n c) := by
    rw [hW, hAC, if_neg (by omega), hb1.cell (p := ⟨w.heap.size, 0, none⟩) (by simp; omega)]
    simp [hAC]
  have c1 : W.cell? ⟨w1.heap.size, 0, none⟩ = some (.int .i64 0) := by rw [hW]; simp [hAC]
  have f1 : W.frozen? ⟨w1.heap.size, 0, none⟩ = false := by rw [hW]; simp [hAF]
  have c2 : W.cell? ⟨w.heap.size + 1, 0, none⟩ = some (.bool f) := by
    rw [hW, hAC, if_neg (by omega), hb1.cell (p := ⟨w.heap.size + 1, 0, none⟩) (by simp)]
    simp [hAC]
  rw [← hW]
  clear hW hb1
  generalize w1.heap.size = g at *
  have HB := Lib.hid hb
  clear hb
  go_loop [6, 18] (AllRel bs) (fun _ i => n - (intOf i).toNat)
  case atStart => exact ⟨0, Nat.zero_le _, rfl, rfl⟩
  case round =>
    obtain ⟨k, hk, rfl, rfl⟩ := hrel
    rw [HL.out] at hk
    by_cases hlt : k < n
    · obtain ⟨x, hx⟩ : ∃ x, bs[k]? = some x := ⟨_, List.getElem?_eq_getElem (by rw [HL.out]; exact hlt)⟩
      have HT := Lib.hid (all_take bs k x hx)
      obtain ⟨b, o, rfl, hlb, hc⟩ := bools_get HH.out hx
      have hc' := (HB.out.cell (p := ⟨b, o + k, none⟩) hlb).trans hc
      have HX := Lib.hid hx
      clear hc hx
      generalize hy : (bs.take k).all id = y at *
      clear hy
      cases y with
      | true =>
        go_wp2
        go_round
        case rel => exact ⟨k + 1, by rw [HL.out]; omega, by go_num, by rw [HT.out]; simp⟩
        case measure => simp [intOf]; omega
      | false =>
        go_wp2
        go_round
        case rel => exact ⟨k + 1, by rw [HL.out]; omega, by go_num, by rw [HT.out]; simp⟩
        case measure => simp [intOf]; omega
    · obtain rfl : n = k := by omega
      have ht : bs.take n = bs := List.take_of_length_le (by rw [HL.out]; exact Nat.le_refl _)
      rw [ht, all_lead, HL.out]
      clear ht
      go_wp2_with fail
      refine (try_any _ _ _ (fun ok w' => (ok = true ↔ lead bs = n ∧ f = false) ∧ NumAt W g (lead bs) w') (enter_tries1 _)
        ((tries1_any a n c bs f _ g _ w W HH.out HB.out (by omega) HL.out hn hc (by omega) (by omega) (by omega) c0 c1 f1 c2).mono fun e w' h => by
          rcases h with ⟨h1, h2, h3⟩ | ⟨h1, h2, h3⟩
          · exact .inl ⟨h1, by simp [h2], h3⟩
          · exact .inr ⟨h1, by simp [h2], h3⟩)).mono ?_
      rintro e w2 ⟨ok, rfl, hok, hz2, hc1, hf1, hbe, hoth⟩
      have HBE := Lib.hid (hbe w.heap.size (by omega) (by omega))
      have hc0 := (hoth w.heap.size 0 (by omega)).trans c0
      have hc2 := (hoth (w.heap.size + 1) 0 (by omega)).trans c2
      have HOT := Lib.hid hoth
      have HOK := Lib.hid hok
      clear hoth hok hbe c0 c1 c2 f1
      go_wp2_with fail
      go_loop [10] (WantRel bs) (fun i => n - (intOf i).toNat)
      case atStart => exact ⟨0, Nat.zero_le _, rfl⟩
      case round =>
        obtain ⟨k, hk, rfl⟩ := hrel
        by_cases hlt : k < n
        · by_cases hld : k < lead bs
          · obtain ⟨b, o, rfl, hlb, hx⟩ := bools_get HH.out (lead_true bs k hld)
            have hx' := ((HOT.out b (o + k) (by omega)).trans (HB.out.cell (p := ⟨b, o + k, none⟩) hlb)).trans hx
            clear hx
            go_wp2
            go_round
            case rel => exact ⟨k + 1, by omega, by go_num⟩
            case measure => simp [intOf]; omega
          · have hkl : k = lead bs := by omega
            obtain ⟨b, o, rfl, hlb, hx⟩ := bools_get HH.out (lead_false bs (by rw [HL.out]; omega))
            rw [← hkl] at hx
            have hx' := ((HOT.out b (o + k) (by omega)).trans (HB.out.cell (p := ⟨b, o + k, none⟩) hlb)).trans hx
            have hd : decide (lead bs = n) = false := by simp; omega
            have hok : ok = false := by
              cases ok with
              | false => rfl
              | true => have := (HOK.out.1 rfl).1; omega
            rw [hd]
            subst hok
            rw [← hkl] at hc1
            have HR := Lib.hid (show k < n from hlt)
            clear hkl hld hx hk hle hd
            go_wp2
            go_ret
            exact ⟨rfl, (by repeat (first | exact brefl _ | assumption | refine balloc ?_ _ | refine bdrew ?_ _ | refine bdrew1 ?_ | refine bthen ?_ (by assumption) | refine Below.trans ?_ (by assumption) | (refine bset ?_ (by first | (simp; done) | (simp; omega)) _)))⟩
        · obtain rfl : n = k := by omega
          have hkl : lead bs = n := by omega
          have hd : decide (lead bs = n) = true := by simp [hkl]
          rw [hd]
          rw [hkl] at hc1
          have HF : f = false ↔ ok = true := by rw [HOK.out]; simp [hkl]
          clear hd hkl hk hle
          cases f with
          | false =>
            obtain rfl : ok = true := HF.1 rfl
            clear HF
            go_wp2
            go_ret
            exact ⟨rfl, (by repeat (first | exact brefl _ | assumption | refine balloc ?_ _ | refine bdrew ?_ _ | refine bdrew1 ?_ | refine bthen ?_ (by assumption) | refine Below.trans ?_ (by assumption) | (refine bset ?_ (by first | (simp; done) | (simp; omega)) _)))⟩
          | true =>
            obtain rfl : ok = false := by
              cases ok with
              | false => rfl
              | true => have := HF.2 rfl; cases this
            clear HF
            go_wp2
            go_ret
            exact ⟨rfl, (by repeat (first | exact brefl _ | assumption | refine balloc ?_ _ | refine bdrew ?_ _ | refine bdrew1 ?_ | refine bthen ?_ (by assumption) | refine Below.trans ?_ (by assumption) | (refine bset ?_ (by first | (simp; done) | (simp; omega)) _)))⟩
end Go.Proofs.Ytfgkmgabldjpaaa
