/- Joined from: WSwap. -/
import Derived.Test.YtcegoenlajkgfaaJ10
import Derived.Test.YtcegoenlajkgfaaJ08
section

/- Subtables of single glyphs, one behind the other: what both give, the bytes that the law writes, and what is read of them. Conditions: numbers of two bytes; no more than 200 glyphs. -/
namespace Go.Proofs.Ytcegoenlajkgfaa
open Go.RowKit Go.Lib

def fAt (l : List Nat) (i : Nat) : Nat := if i < l.length then l.getD i 0 else i
def bothAt (f g : List Nat) (i : Nat) : Nat := fAt g (fAt f i)
def bothP (f g : List Nat) (j : Nat) : List Nat := (List.range j).map (bothAt f g)
def bothL (f g : List Nat) : List Nat := bothP f g (max f.length g.length)
theorem bothP_length (f g : List Nat) (j : Nat) : (bothP f g j).length = j := by simp [bothP]
theorem bothP_succ (f g : List Nat) (j : Nat) : bothP f g (j + 1) = bothP f g j ++ [bothAt f g j] := by simp [bothP, List.range_succ]
theorem getD_le {l : List Nat} (h : ∀ x ∈ l, x ≤ 65535) (i : Nat) : l.getD i 0 ≤ 65535 := by
  rw [List.getD_eq_getElem?_getD]
  cases hx : l[i]? with
  | none => exact Nat.zero_le _
  | some y => exact h y (List.mem_of_getElem? hx)
theorem fAt_le {l : List Nat} (h : ∀ x ∈ l, x ≤ 65535) {i : Nat} (hi : i ≤ 65535) : fAt l i ≤ 65535 := by
  have h1 := getD_le h i
  unfold fAt
  split
  · exact h1
  · exact hi
theorem bothAt_le {f g : List Nat} (hf : ∀ x ∈ f, x ≤ 65535) (hg : ∀ x ∈ g, x ≤ 65535) {i : Nat} (hi : i ≤ 65535) : bothAt f g i ≤ 65535 := fAt_le hg (fAt_le hf hi)
theorem bothL_getD (f g : List Nat) (i : Nat) (h : i < max f.length g.length) : (bothL f g).getD i 0 = bothAt f g i := by
  unfold bothL bothP
  rw [List.getD_eq_getElem?_getD, List.getElem?_map, List.getElem?_range h]
  rfl
theorem bothL_le {f g : List Nat} (hf : ∀ x ∈ f, x ≤ 65535) (hg : ∀ x ∈ g, x ≤ 65535) (h1 : f.length ≤ 200) (h2 : g.length ≤ 200) : ∀ x ∈ bothL f g, x ≤ 65535 := by
  intro x hx
  unfold bothL bothP at hx
  obtain ⟨i, hi, rfl⟩ := List.mem_map.1 hx
  have := List.mem_range.1 hi
  exact bothAt_le hf hg (by omega)
theorem swap1_nat (l : List Nat) (h : l.length ≤ 200) (k : Nat) (c : Int) : swap1 (give8 l) ((k : Int), c) = (((fAt l k : Nat) : Int), c) := by
  unfold swap1 give8 fAt
  by_cases h5 : k = 65535
  · subst h5
    rw [if_pos (by rfl), if_neg (by omega)]
  · rw [if_neg (show ¬ (k : Int) = 65535 by omega)]
    by_cases hk : k < l.length
    · have hr : 0 ≤ (k : Int) ∧ (k : Int) < (l.length : Int) := by omega
      simp only [if_pos hr, if_pos hk, Int.toNat_natCast]
      simp
    · have hr : ¬ (0 ≤ (k : Int) ∧ (k : Int) < (l.length : Int)) := by omega
      simp only [if_neg hr, if_neg hk]
      simp
theorem swap1_neg (l : List Nat) (z : Int) (hz : z < 0) (c : Int) : swap1 (give8 l) (z, c) = (z, c) := by
  unfold swap1 give8
  rw [if_neg (show ¬ z = 65535 by omega)]
  have hr : ¬ (0 ≤ z ∧ z < (l.length : Int)) := by omega
  simp only [if_neg hr]
  simp
theorem both_one (f g : List Nat) (h1 : f.length ≤ 200) (h2 : g.length ≤ 200) (p : Int × Int) : swap1 (give8 g) (swap1 (give8 f) p) = swap1 (give8 (bothL f g)) p := by
  obtain ⟨id, c⟩ := p
  have hbl : (bothL f g).length = max f.length g.length := bothP_length _ _ _
  by_cases h0 : id < 0
  · rw [swap1_neg f id h0, swap1_neg g id h0, swap1_neg _ id h0]
  · obtain ⟨k, rfl⟩ : ∃ k : Nat, id = k := ⟨id.toNat, by omega⟩
    rw [swap1_nat f h1, swap1_nat g h2, swap1_nat _ (by rw [hbl]; omega)]
    congr 2
    by_cases hk : k < max f.length g.length
    · have : fAt (bothL f g) k = bothAt f g k := by
        show (if k < (bothL f g).length then (bothL f g).getD k 0 else k) = _
        rw [if_pos (by rw [hbl]; exact hk), bothL_getD f g k hk]
      rw [this]
      rfl
    · have e : ∀ l : List Nat, ¬ k < l.length → fAt l k = k := fun l hl => by unfold fAt; rw [if_neg hl]
      rw [e f (by omega), e g (by omega), e _ (by rw [hbl]; exact hk)]
theorem both_all (f g : List Nat) (h1 : f.length ≤ 200) (h2 : g.length ≤ 200) (l : List (Int × Int)) : swapL (give8 g) (swapL (give8 f) l) = swapL (give8 (bothL f g)) l := by
  unfold swapL
  rw [List.map_map]
  congr 1
  funext p
  exact both_one f g h1 h2 p
theorem u16V_one (l : List Nat) : ∀ u ∈ u16V l, u.oneCell' = true := by
  intro u hu
  unfold u16V at hu
  obtain ⟨x, _, rfl⟩ := List.mem_map.1 hu
  rfl
/-- The function within the law: a subtable of such a row. -/
def wofB (l : List Nat) (q : Nat) : List UInt8 := beN 2 8 ++ beN 2 0 ++ beN 2 l.length ++ vals16 (l.take q)
set_option maxRecDepth 100000 in
set_option maxHeartbeats 3200000 in
theorem wof_any (a : Option Addr) (n c : Nat) (l : List Nat) (w : World) (h : Has w a (u16V l)) (hl : l.length = n) (hn : n ≤ 200) (hx : ∀ x ∈ l, x ≤ 65535) :
    Calls Try.prog 38 #[.slice a n c] w fun e w' => ∃ gx, e = .returned (.pointer (some ⟨gx, 0, none⟩)) ∧ SwIs w.heap.size gx (sub8 l) (row8 l) w' ∧ Below w.heap.size w w' := by
  have hAC := allocC
  have hAF := allocF
  have HH := Lib.hid h
  have HL := Lib.hid hl
  have HX := Lib.hid hx
  have HP1 := Lib.hid (put_row w.heap.size 8 2 8 2 rfl rfl [] (.slice none 0 0) w (BRow.nil _ _) (Nat.le_refl _) (by decide) (by decide) (by decide))
  clear h hl hx
  go_enter Try.func38, Try.ntmps38
  go_wp2_with (first
    | (go_at_call 39; (with_reducible refine HP1.out.mono ?_); rintro e v1 ⟨s1, rfl, hr1, hb1, _⟩; have HB1 := Lib.hid hb1; have HP2 := Lib.hid (put_row w.heap.size 0 2 0 2 rfl rfl _ s1 v1 hr1 hb1.size (by decide) (by simp [beN_length]) (by decide)); clear hr1 hb1)
    | (go_at_call 39; (with_reducible refine HP2.out.mono ?_); rintro e v2 ⟨s2, rfl, hr2, hb2, _⟩; have HB2 := Lib.hid (HB1.out.trans hb2); have HP3 := Lib.hid (put_row w.heap.size n 2 (n : Int) 2 rfl rfl _ s2 v2 hr2 HB2.out.size (by omega) (by simp [beN_length]) (by decide)); clear hr2 hb2)
    | (go_at_call 39; (with_reducible refine HP3.out.mono ?_); rintro e v3 ⟨s3, rfl, hr3, hb3, _⟩; have HB3 := Lib.hid (HB2.out.trans hb3); have HR3 := Lib.hid (show BRow w.heap.size (wofB l 0) s3 v3 from by have := hr3; rw [List.nil_append] at this; unfold wofB; rw [HL.out, List.take_zero, show vals16 [] = [] from rfl, List.append_nil]; exact this); clear hr3 hb3))
  go_loopw [3, 15] (fun b i wr => ∃ q : Nat, q ≤ n ∧ i = .int .i64 (q : Nat) ∧ BRow w.heap.size (wofB l q) b wr ∧ Below w.heap.size w wr) (fun _ i _ => n - (Go.RowKit.intOf i).toNat)
  case atStart => exact ⟨0, Nat.zero_le _, rfl, HR3.out, HB3.out⟩
  case round =>
    obtain ⟨q, hq, rfl, hr, hb⟩ := hrel
    rename World => wr
    have HR := Lib.hid hr
    have HB := Lib.hid hb
    clear hr hb
    by_cases hlt : q < n
    · obtain ⟨bI, oI, hbI, hblI, hcI⟩ := (HH.out.below HB.out).get (by rw [u16V_length, HL.out]; omega)
      have e1 := hcI q _ (u16V_get l q (by rw [HL.out]; exact hlt))
      have hx := getD_le HX.out q
      have HVS := Lib.hid (show wofB l (q + 1) = wofB l q ++ beN 2 (l.getD q 0) from by unfold wofB; rw [vals16_snoc l q (by rw [HL.out]; exact hlt), ← List.append_assoc])
      have hlen : (wofB l q).length ≤ 1000 := by unfold wofB; simp only [List.length_append, beN_length, vals16_length, List.length_take, HL.out]; omega
      generalize l.getD q 0 = x at *
      have hc1 : IntKind.i64.wrap ((x : Nat) : Int) = (x : Int) := IntWalk.i64_in _ (by omega)
      have HP := Lib.hid (put_row w.heap.size x 2 (x : Int) 2 rfl rfl (wofB l q) _ wr HR.out HB.out.size (by omega) (by omega) (by decide))
      subst hbI
      clear hcI hlen
      go_wp2_with (go_at_call 39; (with_reducible refine HP.out.mono ?_); rintro e v4 ⟨s4, rfl, hr4, hb4, _⟩; have HR4 := Lib.hid hr4; have HB4 := Lib.hid (HB.out.trans hb4); clear hr4 hb4)
      go_roundw
      case rel => exact ⟨q + 1, hlt, by go_num, by rw [HVS.out]; exact HR4.out, HB4.out⟩
      case measure => simp [Go.RowKit.intOf]; omega
    · obtain rfl : n = q := by omega
      have hr := HR.out
      have he : wofB l n = sub8 l := by unfold wofB sub8; rw [List.take_of_length_le (by rw [HL.out]; exact Nat.le_refl _)]
      rw [he] at hr
      obtain ⟨aB, cB, rfl, ho, k1, k2, _⟩ := hr
      obtain ⟨N, hN⟩ : ∃ N, N = (sub8 l).length := ⟨_, rfl⟩
      rw [← hN] at ho k1
      rw [← hN]
      have HRD := Lib.hid (swread_some aB N cB (sub8 l) 40 40 rfl (row8 l) wr (has_of_owns ho) hN.symm k1 k2 (by decide) (by decide) (sub8_ok l (by rw [HL.out]; omega) 40))
      have hz := HB.out.size
      clear ho hN k1 k2 he HR
      go_wp2_with (go_at_call 30; (with_reducible refine HRD.out.mono ?_); rintro e w7 ⟨gx, rfl, hT, hb7⟩; have HT := Lib.hid (hT.monoS hz); have HB7 := Lib.hid (HB.out.trans (hb7.mono hz)); clear hT hb7)
      go_ret
      exact ⟨gx, rfl, HT.out, HB7.out⟩
end Go.Proofs.Ytcegoenlajkgfaa
end
