
/- The walk of LookupKeeps. Condition: as many bytes as the slice says. -/
import Derived.Test.YtajhljgcbafbcaaLArr
import Derived.Test.YtajhljgcbafbcaaLaw1
namespace Go.Proofs.Ytajhljgcbafbcaa
open Go.RowKit Go.Lib

set_option maxRecDepth 100000 in
set_option maxHeartbeats 3200000 in
theorem lookupKeeps_walk (a : Option Addr) (n c : Nat) (bs : List UInt8) (y : Int) (w : World) (h : Has w a (bytesV bs)) (hl : bs.length = n) (hn : n ≤ c) (hc : c ≤ maxLen) (hA : a = none → c = 0) :
    Calls Try.prog 5 #[.slice a n c, .int .u8 y] w fun e w' => e = .returned (.bool true) ∧ Below w.heap.size w w' := by
  by_cases hbig : 400 < n
  · clear h hl
    unfold maxLen at hc
    go_enter Try.func5, Try.ntmps5
    go_wp2_with (first | (go_at_call 15; refine (speaks6_any _).mono ?_; rintro e w1 ⟨rfl, hb1⟩; have h1c := bc hb1; have h1f := bf hb1; have h1z := hb1.size; try simp only [World.size_alloc, World.size_drew] at h1z))
    go_ret
    exact ⟨rfl, (by repeat (first | exact brefl _ | assumption | refine balloc ?_ _ | refine bdrew ?_ _ | refine bdrew1 ?_ | refine bthen ?_ (by assumption) | refine Below.trans ?_ (by assumption) | (refine bset ?_ (by first | (simp; done) | (simp; omega)) _)))⟩
  have HH := Lib.hid h
  have HL := Lib.hid hl
  have HA := Lib.hid hA
  clear h hl hA
  go_enter Try.func5, Try.ntmps5
  go_wp2_with (first
    | (go_at_call 15; refine (speaks6_any _).mono ?_; rintro e w1 ⟨rfl, hb1⟩; have h1c := bc hb1; have h1f := bf hb1; have h1z := hb1.size; try simp only [World.size_alloc, World.size_drew] at h1z)
    | (at_builtin; refine wpApp rfl _ _ 22 rfl w.heap.size 5 (.int .u8 0) 1 1 Try.underlying22 u8_info rfl (by decide) _ 0 [] rfl (owns_mono (World.ownsRow_lit w1 #[] 0 (Nat.le_refl _) (by decide) rfl) (by omega)) a n c (bytesV bs) rfl (by rw [bytesV_length, HL.out]; omega) (HH.out.below (by repeat (first | exact brefl _ | assumption | refine balloc ?_ _ | refine bdrew ?_ _ | refine bdrew1 ?_ | refine bthen ?_ (by assumption) | refine Below.trans ?_ (by assumption) | (refine bset ?_ (by first | (simp; done) | (simp; omega)) _)))) HA.out (bytesV_one bs) (by unfold maxLen; omega) (by omega) (by simp; omega) ?_; intro a2 c2 w2 hown2 k21 k22 k23 hb2 hg2; rw [Nat.zero_add] at *; have HO2 := Lib.hid hown2; have HB2 := Lib.hid hb2; have hz2 := hg2.size; clear hown2 hg2 k23))
  have hO0 := HO2.out
  rw [List.nil_append] at hO0
  have HHO := Lib.hid (has_of_owns hO0)
  have HOO := Lib.hid hO0
  have hzw : w.heap.size ≤ w2.heap.size := by simp only [World.size_alloc] at hz2; omega
  have HBW := Lib.hid (show Below w.heap.size w w2 from (show Below w.heap.size w (w1.alloc (.cells #[] 5)) from (by repeat (first | exact brefl _ | assumption | refine balloc ?_ _ | refine bdrew ?_ _ | refine bdrew1 ?_ | refine bthen ?_ (by assumption) | refine Below.trans ?_ (by assumption) | (refine bset ?_ (by first | (simp; done) | (simp; omega)) _)))).trans HB2.out)
  clear hO0 HO2 HB2 hb1 h1c h1f hb2 hz2 h1z
  by_cases hok : ∃ rs, LkOk bs 40 2 rs
  case neg =>
    refine (lread_none a2 n c2 bs 40 2 _ _ rfl rfl w2 HHO.out HL.out k21 k22 (by decide) (by decide) (by decide) (fun rs hr => hok ⟨rs, hr⟩)).mono ?_
    rintro e w3 ⟨rfl, hb3⟩
    have HB3 := Lib.hid (HBW.out.trans (hb3.mono hzw))
    clear hb3 hok
    go_wp2_with fail
    go_ret
    exact ⟨rfl, HB3.out⟩
  obtain ⟨rs, hok⟩ := hok
  refine (lread_some a2 n c2 bs 40 2 _ _ rfl rfl rs w2 HHO.out HL.out k21 k22 (by decide) (by decide) (by decide) hok).mono ?_
  rintro e w3 ⟨g, rfl, ht3, hb3⟩
  have HF := Lib.hid (hok.fit (by decide) (by decide))
  have HT3 := Lib.hid ht3
  have HO3 := Lib.hid (owns_below HOO.out hb3 (Nat.le_refl _))
  have HB3 := Lib.hid (HBW.out.trans (hb3.mono hzw))
  have hw3 : w.heap.size ≤ w3.heap.size := HB3.out.size
  clear ht3 hb3 hok
  generalize (tabR bs rs).1 = ps at *
  generalize (tabR bs rs).2 = ns at *
  generalize num bs 0 2 = fmt at *
  obtain ⟨f, hf⟩ : ∃ f : Nat → Int, f = fun i => ((getL ps ns ((i : Nat) : Int)).1 : Int) := ⟨_, rfl⟩
  have HFF := Lib.hid hf
  clear hf
  have HG := Lib.hid (fun (W : World) (k : Nat) (hk : k < 60) (ht : TabIs w2.heap.size g fmt ps ns W) => show Calls Try.prog 19 #[.pointer (some ⟨g, 0, none⟩), .int .i64 (k : Nat)] W fun e w' => e = .returned (.tuple #[.int .i64 (f k), .bool (getL ps ns ((k : Nat) : Int)).2]) ∧ Below W.heap.size W w' from by rw [HFF.out]; exact get_fn _ g fmt ps ns _ W ht HF.out (by omega))
  go_wp2_with (first
    | (refine wpBuild60 rfl rfl f ?_; dsimp only [Act.put]; simp only [List.setIfInBounds_toArray, List.set_cons_succ, List.set_cons_zero])
    | (refine wpAlloc60 rfl rfl ?_; dsimp only [Act.put]; simp only [List.setIfInBounds_toArray, List.set_cons_succ, List.set_cons_zero]; (refine wpStore60 rfl _ _ rfl f 0 rfl rfl ?_); (try dsimp only [Act.put]); (try simp only [List.setIfInBounds_toArray, List.set_cons_succ, List.set_cons_zero])))
  obtain ⟨W4, hW4⟩ : ∃ W4, W4 = w3.alloc (Obj.cells (wasA f 0) 47) := ⟨_, rfl⟩
  have hb4 : Below w3.heap.size w3 W4 := by rw [hW4]; exact balloc (brefl _) _
  have h84 : W4.heap[w3.heap.size]? = some (.cells (wasA f 0) 47 (0, 0)) := by rw [hW4, heap_push, if_pos rfl]
  have HT4 := Lib.hid (HT3.out.below hb4)
  have HO4 := Lib.hid (owns_below HO3.out hb4 (Nat.le_refl _))
  have HB4 := Lib.hid (HB3.out.trans (hb4.mono hw3))
  have H84 := Lib.hid h84
  rw [← hW4]
  clear hW4 hb4 h84 HT3 HO3 HB3 HOO HHO HBW
  obtain ⟨g8, hg8⟩ : ∃ g8, g8 = w3.heap.size := ⟨_, rfl⟩
  rw [← hg8] at H84 hw3 ⊢
  clear hg8
  go_loopw [31] (fun i wr => ∃ k : Nat, k ≤ 60 ∧ i = .int .i64 (k : Nat) ∧ TabIs w2.heap.size g fmt ps ns wr ∧ wr.heap[g8]? = some (.cells (wasA f k) 47 (0, 0)) ∧ wr.ownsRow w.heap.size 5 1 (.slice a2 n c2) n (bytesV bs) ∧ Below w.heap.size w wr) (fun i _ => 60 - (intOf i).toNat)
  case atStart => exact ⟨0, by omega, rfl, HT4.out, H84.out, HO4.out, HB4.out⟩
  case round =>
    obtain ⟨k, hk, rfl, ht, h8, ho, hb⟩ := hrel
    have HT5 := Lib.hid ht
    have H85 := Lib.hid h8
    have HO5 := Lib.hid ho
    have HB5 := Lib.hid hb
    clear ht h8 ho hb
    by_cases hlt : k < 60
    · have HGK := Lib.hid (HG.out wr k hlt HT5.out)
      generalize (getL ps ns ((k : Nat) : Int)).2 = bk at *
      go_wp2_with (first | (go_at_call 19; (with_reducible refine HGK.out.mono ?_); rintro e wb ⟨rfl, hbb⟩; have h8b := (hbb.block g8 (Array.getElem?_eq_some_iff.1 H85.out).1).trans H85.out; have q8 := (cell_of_heap h8b k).trans (wasA_get f k k hlt); have qf := fun o => froz_of_heap h8b o; have hl8 := (Array.getElem?_eq_some_iff.1 h8b).1; have H8B := Lib.hid h8b; have HBB := Lib.hid hbb; clear hbb h8b; rw [if_neg (Nat.lt_irrefl k)] at q8))
      have HT6 := Lib.hid ((HT5.out.below HBB.out).setOther (o := k) H8B.out (by decide) (by decide) (by decide) (.int .i64 (f k)))
      have H86 := Lib.hid (show (wb.setCell ⟨g8, k, none⟩ (.int .i64 (f k))).heap[g8]? = some (.cells (wasA f (k + 1)) 47 (0, 0)) from by rw [set_heap_at _ H8B.out, wasA_set f k hlt])
      have ho6 := owns_below HO5.out HBB.out (Nat.le_refl _)
      have HO6 := Lib.hid (set_owns (o := k) (.int .i64 (f k)) ho6 (own_neE ho6 H8B.out (by decide)))
      have HB6 := Lib.hid ((HB5.out.trans (HBB.out.mono HB5.out.size)).setCell (p := ⟨g8, k, none⟩) hw3 (.int .i64 (f k)))
      clear ho6 q8 qf
      go_roundw
      case rel => exact ⟨k + 1, hlt, by go_num, HT6.out, H86.out, HO6.out, HB6.out⟩
      case measure => simp [intOf]; omega
    · have hk60 : k = 60 := by omega
      have H85 := Lib.hid (show wr.heap[g8]? = some (.cells (wasA f 60) 47 (0, 0)) from by rw [← hk60]; exact H85.out)
      clear hk60
      go_wp2_with fail
      go_loopw [45] (fun i wr => ∃ j : Nat, j ≤ n ∧ i = .int .i64 (j : Nat) ∧ TabIs w2.heap.size g fmt ps ns wr ∧ wr.heap[g8]? = some (.cells (wasA f 60) 47 (0, 0)) ∧ (∃ xs, wr.ownsRow w.heap.size 5 1 (.slice a2 n c2) n xs ∧ AllU8 xs) ∧ Below w.heap.size w wr) (fun i _ => n - (intOf i).toNat)
      case atStart => exact ⟨0, Nat.zero_le _, rfl, HT5.out, H85.out, ⟨_, HO5.out, u8_bytes _⟩, HB5.out⟩
      case round =>
        obtain ⟨j, hj, rfl, ht, h8, ⟨xs, hx, hxa⟩, hb⟩ := hrel
        have HT7 := Lib.hid ht
        have H87 := Lib.hid h8
        have HB7 := Lib.hid hb
        have HX7 := Lib.hid hx
        have HA7 := Lib.hid hxa
        clear ht h8 hb hx hxa
        by_cases hlt2 : j < n
        · obtain ⟨g3, z, hap, hg3, hcell, hfr, _⟩ := owns_u8 HX7.out HA7.out j hlt2
          have HAP := Lib.hid hap
          have HX8 := Lib.hid (show wr.ownsRow w.heap.size 5 1 (.slice (some ⟨g3, 0, none⟩) n c2) n xs from by rw [← hap]; exact HX7.out)
          rw [hap]
          clear hap
          go_wp2_with fail
          have HS := Lib.hid (HX8.out.stored j (.int .u8 y)).1
          obtain ⟨cs3, hcs3⟩ : ∃ cs fz, wr.heap[g3]? = some (.cells cs 5 fz) := by
            rcases HX8.out.2 with ⟨hv, _⟩ | ⟨q, cap, cur, hv, _, hh, _⟩
            · cases hv
            · injection hv with e1
              injection e1 with e1
              injection e1 with e1 _ _
              subst e1
              exact ⟨_, _, hh⟩
          obtain ⟨fz3, hcs3⟩ := hcs3
          have HT8 := Lib.hid (HT7.out.setOther (o := j) hcs3 (by decide) (by decide) (by decide) (.int .u8 y))
          have hne8 : g8 ≠ g3 := by
            rintro rfl
            have := H87.out
            rw [hcs3] at this
            injection this with this
            injection this with _ this _
            exact absurd this (by decide)
          have H88 := Lib.hid ((set_heap_other (o := j) (.int .u8 y) hne8).trans H87.out)
          have HB8 := Lib.hid (HB7.out.setCell (p := ⟨g3, j, none⟩) hg3 (.int .u8 y))
          have HA8 := Lib.hid (show AllU8 (xs.set j (.int .u8 y)) from fun u hu => by
            rcases List.mem_or_eq_of_mem_set hu with hu | rfl
            · exact HA7.out u hu
            · exact ⟨y, rfl⟩)
          clear hcell hfr
          go_roundw
          case rel => exact ⟨j + 1, hlt2, by go_num, HT8.out, H88.out, ⟨_, HS.out, HA8.out⟩, HB8.out⟩
          case measure => simp [intOf]; omega
        · obtain rfl : j = n := by omega
          have HCK := Lib.hid (fun (i : Nat) (hi : i < 60) => show (wasA f 60)[i]? = some (.int .i64 (f i)) from by rw [wasA_get f 60 i hi, if_pos hi])
          have HAS := Lib.hid (wasA_size f 60)
          go_wp2_with (first | (refine wpLoad60 rfl _ rfl g8 (wasA f 60) (0, 0) rfl H87.out HAS.out ?_; dsimp only [Act.put]; simp only [List.setIfInBounds_toArray, List.set_cons_succ, List.set_cons_zero]))
          go_loopw [54] (fun i wv => ∃ k : Nat, k ≤ 60 ∧ i = .int .i64 (k : Nat) ∧ TabIs w2.heap.size g fmt ps ns wv ∧ Below w.heap.size w wv) (fun i _ => 60 - (intOf i).toNat)
          case atStart => exact ⟨0, by omega, rfl, HT7.out, HB7.out⟩
          case round =>
            obtain ⟨k, hk, rfl, ht, hb⟩ := hrel
            have HT9 := Lib.hid ht
            have HB9 := Lib.hid hb
            clear ht hb
            rename World => wv
            by_cases hlt : k < 60
            · have hix := run_index60 (wasA f 60) k (f k) (HCK.out k hlt) hlt wv
              have HGK := Lib.hid (HG.out wv k hlt HT9.out)
              generalize (getL ps ns ((k : Nat) : Int)).2 = bk at *
              go_wp2_with (first | (go_at_call 19; (with_reducible refine HGK.out.mono ?_); rintro e wb ⟨rfl, hbb⟩; have HBB := Lib.hid hbb; clear hbb))
              go_roundw
              case rel => exact ⟨k + 1, hlt, by go_num, HT9.out.below HBB.out, HB9.out.trans (HBB.out.mono HB9.out.size)⟩
              case measure => simp [intOf]; omega
            · obtain rfl : k = 60 := by omega
              go_wp2_with fail
              go_ret
              exact ⟨rfl, HB9.out⟩
end Go.Proofs.Ytajhljgcbafbcaa
