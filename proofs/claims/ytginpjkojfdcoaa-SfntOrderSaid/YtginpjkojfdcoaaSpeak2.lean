
/- SfntOrder's head 'speaks': a font of one table is made, and read. No condition. -/
import Derived.Test.YtginpjkojfdcoaaBack
namespace Go.Proofs.Ytginpjkojfdcoaa
open Go.RowKit Go.Lib

def abcd : ByteArray := { data := #[97, 98, 99, 100] }
def abce : ByteArray := { data := #[97, 98, 99, 101] }
def onePart (a : Option Addr) : PartV := ⟨abcd, a, 1, 1, [1]⟩
def oneFont : List UInt8 := font [onePart none]
theorem one_font (a : Option Addr) : font [onePart a] = oneFont := rfl
theorem one_fine (a : Option Addr) : fine [onePart a] := ⟨fun i hi p hp => by
  obtain rfl : i = 0 := by simpa using hi
  simp at hp; subst hp
  exact ⟨rfl, fun q h => by omega⟩, by simp⟩
theorem one_is : isFont oneFont ∧ cntOf oneFont = 1 ∧ tagAt oneFont 0 = abcd.data.toList ∧ atAt oneFont 0 = 28 ∧ lenAt oneFont 0 = 1 ∧ oneFont.length = 32 := by
  have h := font_is (one_fine none) (by simp [Rises]) (fun p hp => by simp at hp; subst hp; rfl) (by decide)
  obtain ⟨h1, h2, h3⟩ := h
  obtain ⟨t1, t2, t3⟩ := h3 0 (onePart none) rfl
  exact ⟨h1, h2, t1, t2, t3, font_length (fun p hp => by simp at hp; subst hp; rfl) (fun p hp => by simp at hp; subst hp; rfl)⟩
theorem one_found (i : Nat) (h : tagFound oneFont abcd.toList i) : i = 0 := by have := h.2.1; rw [one_is.2.1] at this; omega
theorem one_there : tagFound oneFont abcd.toList 0 := ⟨one_is.1, by rw [one_is.2.1]; omega, by rw [one_is.2.2.1, ByteArray.toList_eq]⟩
theorem one_not (i : Nat) : ¬ tagFound oneFont abce.toList i := fun h => by
  have h1 := h.2.1
  rw [one_is.2.1] at h1
  obtain rfl : i = 0 := by omega
  have h2 := h.2.2
  rw [one_is.2.2.1, ByteArray.toList_eq] at h2
  exact absurd h2 (by decide)

set_option maxRecDepth 100000 in
theorem make_one (g gb : Nat) (w : World) (h0 : w.cell? ⟨g, 0, none⟩ = some (.string abcd)) (h1 : w.cell? ⟨g, 1, none⟩ = some (.slice (some ⟨gb, 0, none⟩) 1 1)) (h2 : w.cell? ⟨gb, 0, none⟩ = some (.int .u8 1)) :
    Calls Try.prog 13 #[.slice (some ⟨g, 0, none⟩) 1 1] w fun e w' => ∃ a' c', e = .returned (.slice a' 32 c') ∧ w'.ownsRow w.heap.size 5 1 (.slice a' 32 c') 32 (bytesV oneFont) ∧ 32 ≤ c' ∧ c' ≤ maxLen ∧ (a' = none → c' = 0) ∧ Below w.heap.size w w' := by
  have hh : Has w (some ⟨g, 0, none⟩) (encAll [onePart (some ⟨gb, 0, none⟩)]) := has_of fun j u hu => by
    match j, hu with
    | 0, hu => simp [encAll, PartV.enc, onePart] at hu; subst hu; exact h0
    | 1, hu => simp [encAll, PartV.enc, onePart] at hu; subst hu; exact h1
    | j + 2, hu => simp [encAll, PartV.enc] at hu
  have hb : Has w (some ⟨gb, 0, none⟩) (bytesV [1]) := has_of fun j u hu => by
    match j, hu with
    | 0, hu => simp [bytesV] at hu; subst hu; exact h2
    | j + 1, hu => simp [bytesV] at hu
  refine (make_any _ 1 1 [onePart (some ⟨gb, 0, none⟩)] w hh rfl (by omega) (by decide) (by intro h; cases h) (by omega) (fun p hp => by
    simp at hp; subst hp
    exact ⟨hb, rfl, Nat.le_refl _, show 1 ≤ maxLen by decide, fun h => (by cases h), show 1 ≤ 100000 by decide⟩)).mono ?_
  rintro e w' ⟨rs, hp, hs, (⟨hf, a', c', rfl, ho, k1, k2, k3⟩ | ⟨hf, rfl⟩), hbb⟩
  · obtain rfl := List.perm_singleton.1 hp
    rw [one_font, one_is.2.2.2.2.2] at ho k1
    rw [one_font, one_is.2.2.2.2.2]
    exact ⟨a', c', rfl, ho, k1, k2, k3, hbb⟩
  · obtain rfl := List.perm_singleton.1 hp
    exact absurd (one_fine _) hf

set_option maxRecDepth 100000 in
set_option maxHeartbeats 1600000 in
theorem speaks_order (w : World) : Calls Try.prog 11 #[] w fun e w' => e = .returned (.bool true) ∧ Below w.heap.size w w' := by
  have hAC := allocC
  have hAF := allocF
  go_enter Try.func11, Try.ntmps11
  go_wp2_with fail
  refine (make_one (w.heap.size + 1) w.heap.size _ (by simp [hAC, abcd]) (by simp [hAC]) (by simp [hAC])).mono ?_
  rintro e w1 ⟨a1, c1, rfl, hown, k1, k2, k3, hb1⟩
  have HH := Lib.hid (has_of_owns hown)
  have hl := one_is.2.2.2.2.2
  have HL := Lib.hid hl
  have HB1 := Lib.hid (show Below w.heap.size w w1 from bthen (balloc (balloc (brefl w) _) _) hb1)
  clear hown k3 hl hb1
  have ht := fun W hW => tables_any a1 32 c1 oneFont W hW HL.out k1 k2
  have hfa := fun W hW => find_any a1 32 c1 oneFont abcd W hW HL.out k1 k2
  have hfe := fun W hW => find_any a1 32 c1 oneFont abce W hW HL.out k1 k2
  have HT := Lib.hid ht
  have HFA := Lib.hid hfa
  have HFE := Lib.hid hfe
  clear ht hfa hfe
  go_wp2_with (go_at_call 25; refine (HT.out _ HH.out).mono ?_)
  rintro e w2 ⟨(⟨_, g, rfl, hown⟩ | ⟨hf, _⟩), hb2⟩
  case inr => exact absurd one_is.1 hf
  rw [one_is.2.1] at hown ⊢
  have HO := Lib.hid hown
  have hb2z := hb2.size
  have HB2 := Lib.hid (HB1.out.trans (hb2.mono HB1.out.size))
  have HH2 := Lib.hid (HH.out.below hb2)
  clear hown hb2
  go_wp2_with (go_at_call 26; refine (HFA.out _ HH2.out).mono ?_)
  rintro e w3 ⟨(⟨i, hi, rfl⟩ | ⟨hno, _⟩), hb3⟩
  case inr => exact absurd one_there (hno 0)
  obtain rfl := one_found i hi
  rw [one_is.2.2.2.1, one_is.2.2.2.2.1]
  have HB3 := Lib.hid (HB2.out.trans (hb3.mono HB2.out.size))
  have HH3 := Lib.hid (HH2.out.below hb3)
  have HO3 := Lib.hid (owns_below HO.out hb3 (Nat.le_refl _))
  generalize adv a1 c1 28 = A at *
  clear hb3 hi hb2z
  go_wp2_with (go_at_call 26; refine (HFE.out _ (HH3.out.below (by repeat (first | exact brefl _ | assumption | refine balloc ?_ _ | refine bdrew ?_ _ | refine bdrew1 ?_ | refine bthen ?_ (by assumption) | refine Below.trans ?_ (by assumption) | (refine bset ?_ (by first | (simp; done) | (simp; omega)) _))))).mono ?_)
  rintro e w4 ⟨(⟨i, hi, _⟩ | ⟨_, rfl⟩), hb4⟩
  case inl => exact absurd hi (one_not i)
  have c4 : w4.cell? ⟨w3.heap.size, 0, none⟩ = some (.slice A 1 (c1 - 28)) := by rw [hb4.cell (by simp)]; simp [hAC]
  have HB4 := Lib.hid (HB3.out.trans ((show Below w3.heap.size w3 w4 from bthen (balloc (brefl w3) _) hb4).mono HB3.out.size))
  have hgl := (HO3.out.lt g (by simp [Value.ownBlock])).2
  have hO4 := owns_below HO3.out (show Below w3.heap.size w3 w4 from bthen (balloc (brefl w3) _) hb4) (Nat.le_refl _)
  have q0 : w4.cell? ⟨g, 0, none⟩ = some (.string abcd) := (hO4.cellAt 0 (by omega)).trans (by rw [(tabsV_get oneFont 1 0 (by omega)).1, one_is.2.2.1]; rfl)
  have q1 : w4.cell? ⟨g, 1, none⟩ = some (.int .i64 28) := (hO4.cellAt 1 (by omega)).trans (by have := (tabsV_get oneFont 1 0 (by omega)).2.1; rw [one_is.2.2.2.1] at this; exact this)
  have q2 : w4.cell? ⟨g, 2, none⟩ = some (.int .i64 1) := (hO4.cellAt 2 (by omega)).trans (by have := (tabsV_get oneFont 1 0 (by omega)).2.2; rw [one_is.2.2.2.2.1] at this; exact this)
  unfold abcd at q0
  have hz4 := hb4.size
  simp only [World.size_alloc] at hz4
  have hl34 : w3.heap.size < w4.heap.size := by omega
  have hne : ¬ w3.heap.size = w4.heap.size := by omega
  have hgne : ¬ g = w4.heap.size := by omega
  clear hb4 hO4
  go_wp2_with (first | (go_at_call 27; refine (len_any _ _ _ _).mono ?_; rintro e w5 ⟨rfl, hb5⟩; have h5c := bc hb5; have h5f := bf hb5; have h5z := hb5.size; try simp only [World.size_alloc, World.size_drew] at h5z))
  go_ret
  exact ⟨rfl, HB4.out.trans ((show Below w4.heap.size w4 w5 from bthen (balloc (brefl w4) _) hb5).mono HB4.out.size)⟩
end Go.Proofs.Ytginpjkojfdcoaa
