
/- Contracts of package face: table, take, Read. Conditions: as many bytes as the slice says, no more than its capacity. -/
import Derived.Test.YthacabmnnpibkaaBack
namespace Go.Proofs.Ythacabmnnpibkaa
open Go.RowKit Go.Lib

theorem font_less {bs : List UInt8} (hf : isFont bs) {i j : Nat} (hij : i < j) (hj : j < cntOf bs) : bl' (tagAt bs i) (tagAt bs j) = true := by
  have step : ∀ k, k + 1 < cntOf bs → bl' (tagAt bs k) (tagAt bs (k + 1)) = true := fun k hk => by
    have := (hf.2 (k + 1) hk).1 (by omega)
    rwa [ltB, str_toList, str_toList, less_bl] at this
  induction j with
  | zero => omega
  | succ j ih =>
    rcases Nat.lt_or_ge i j with g | g
    · exact bl_trans _ _ _ (ih g (by omega)) (step j hj)
    · obtain rfl : i = j := by omega
      exact step i hj
theorem found_one {bs t : List UInt8} {i j : Nat} (hi : tagFound bs t i) (hj : tagFound bs t j) : i = j := by
  rcases Nat.lt_trichotomy i j with g | g | g
  · have := font_less hi.1 g hj.2.1
    rw [hi.2.2, hj.2.2, bl_self] at this; cases this
  · exact g
  · have := font_less hi.1 g hi.2.1
    rw [hi.2.2, hj.2.2, bl_self] at this; cases this
/-- What a table's View must be. -/
def tabOk (bs t : List UInt8) (least i : Nat) : Prop := tagFound bs t i ∧ least ≤ lenAt bs i
def viewAt (a : Option Addr) (c : Nat) (bs : List UInt8) (i : Nat) : Value := .slice (adv a c (atAt bs i)) (lenAt bs i) (c - atAt bs i)

set_option maxRecDepth 100000 in
set_option maxHeartbeats 1600000 in
theorem table_any (a : Option Addr) (n c : Nat) (bs : List UInt8) (t : ByteArray) (least : Nat) (w : World) (h : Has w a (bytesV bs)) (hl : bs.length = n) (hn : n ≤ c) (hc : c ≤ maxLen) :
    Calls Try.prog 39 #[.slice a n c, .string t, .int .i64 least] w fun e w' => ((∃ i, tabOk bs t.toList least i ∧ e = .returned (.agg #[viewAt a c bs i])) ∨ ((∀ i, ¬ tabOk bs t.toList least i) ∧ e = .panicked thrown)) ∧ Below w.heap.size w w' := by
  have HH := Lib.hid h
  have HL := Lib.hid hl
  clear h hl
  have hAC := allocC
  have hAF := allocF
  go_enter Try.func39, Try.ntmps39
  go_wp2_with fail
  refine (find_any a n c bs t _ (HH.out.below (by repeat (first | exact brefl _ | assumption | refine balloc ?_ _ | refine bdrew ?_ _ | refine bdrew1 ?_ | refine bthen ?_ (by assumption) | refine Below.trans ?_ (by assumption) | (refine bset ?_ (by first | (simp; done) | (simp; omega)) _)))) HL.out hn hc).mono ?_
  rintro e w1 ⟨(⟨i, hi, rfl⟩ | ⟨hno, rfl⟩), hb1⟩
  · have hA4 := num4_lt bs (12 + 16 * i + 12)
    have e6 : w1.cell? ⟨w.heap.size, 0, none⟩ = some (.slice none 0 0) := (hb1.cell (p := ⟨w.heap.size, 0, none⟩) (by simp)).trans (by rw [hAC, if_pos rfl]; rfl)
    have f6 : w1.frozen? ⟨w.heap.size, 0, none⟩ = false := (hb1.frozen (p := ⟨w.heap.size, 0, none⟩) (by simp)).trans (by rw [hAF, if_pos rfl])
    have hz1 := hb1.size
    simp only [World.size_alloc] at hz1
    have HB1 := Lib.hid (show Below w.heap.size w w1 from (balloc (brefl w) _).trans (hb1.mono (by simp)))
    have hlt : w.heap.size < w1.heap.size := by omega
    have hlen : lenAt bs i = num bs (12 + 16 * i + 12) 4 := rfl
    have hne : ¬ w.heap.size = w1.heap.size := by omega
    have HV := Lib.hid (show viewAt a c bs i = .slice (adv a c (atAt bs i)) (lenAt bs i) (c - atAt bs i) from rfl)
    rw [← hlen] at hA4
    clear hlen hb1
    generalize adv a c (atAt bs i) = A at *
    generalize c - atAt bs i = C at *
    by_cases hle : least ≤ lenAt bs i
    · have HI := Lib.hid (show tabOk bs t.toList least i from ⟨hi, hle⟩)
      generalize lenAt bs i = L at *
      go_wp2_with (first | (go_at_call 45; refine (len_any _ _ _ _).mono ?_; rintro e w2 ⟨rfl, hb2⟩; have h2c := bc hb2; have h2f := bf hb2; have h2z := hb2.size; try simp only [World.size_alloc, World.size_drew] at h2z) | (go_at_call 41; refine (need_t _ (by first | rfl | (simp; omega)) _).mono ?_; rintro e w_ ⟨rfl, rfl⟩))
      have e62 := (hb2.cell (p := ⟨w.heap.size, 0, none⟩) (by simp; omega)).trans ((by rw [hAC, if_neg hne]; exact e6 : (w1.alloc (Obj.cells #[.slice A L C] 75)).cell? ⟨w.heap.size, 0, none⟩ = some (.slice none 0 0)))
      have f62 := (hb2.frozen (p := ⟨w.heap.size, 0, none⟩) (by simp; omega)).trans ((by rw [hAF, if_neg hne]; exact f6 : (w1.alloc (Obj.cells #[.slice A L C] 75)).frozen? ⟨w.heap.size, 0, none⟩ = false))
      refine bodyPost_ret (v := .agg #[.slice A L C]) (by simp [results, Try.results39, go_sem, e62, f62]) rfl ?_
      exact ⟨.inl ⟨i, HI.out, by rw [HV.out]⟩, bset (HB1.out.trans ((show Below w1.heap.size w1 w2 from bthen (balloc (brefl w1) _) hb2).mono (by omega))) (by simp) _⟩
    · have HNI := Lib.hid (show ∀ j, ¬ tabOk bs t.toList least j from fun j hj => by
      obtain rfl := found_one hi hj.1
      exact hle hj.2)
      generalize lenAt bs i = L at *
      go_wp2_with (first | (go_at_call 45; refine (len_any _ _ _ _).mono ?_; rintro e w2 ⟨rfl, hb2⟩; have h2c := bc hb2; have h2f := bf hb2; have h2z := hb2.size; try simp only [World.size_alloc, World.size_drew] at h2z) | (go_at_call 41; refine (need_f _ (by first | rfl | (simp; omega)) _).mono ?_; rintro e w_ ⟨rfl, rfl⟩))
      exact ⟨rfl, .inr ⟨HNI.out, rfl⟩, HB1.out.trans ((show Below w1.heap.size w1 w2 from bthen (balloc (brefl w1) _) hb2).mono (by omega))⟩
  · have HB1 := Lib.hid (show Below w.heap.size w w1 from (balloc (brefl w) _).trans (hb1.mono (by simp)))
    have HNO := Lib.hid hno
    have hz1 := hb1.size
    simp only [World.size_alloc] at hz1
    clear hno hb1
    go_wp2_with (first | (go_at_call 41; refine (need_f _ (by first | rfl | (simp; omega)) _).mono ?_; rintro e w_ ⟨rfl, rfl⟩))
    exact ⟨rfl, .inr ⟨fun j hj => HNO.out j hj.1, rfl⟩, HB1.out.trans ((balloc (brefl w1) _).mono (by omega))⟩
end Go.Proofs.Ythacabmnnpibkaa
