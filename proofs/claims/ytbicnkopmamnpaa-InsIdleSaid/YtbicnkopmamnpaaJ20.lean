/- Joined from: ISome ITake ITake2 IRead IIns IAct. -/
import Derived.Test.YtbicnkopmamnpaaJ01
import Derived.Test.YtbicnkopmamnpaaJ19
import Derived.Test.YtbicnkopmamnpaaJ17
import Derived.Test.YtbicnkopmamnpaaJ18
import Derived.Test.YtbicnkopmamnpaaJ16
import Derived.Test.YtbicnkopmamnpaaJ03
section

/- ins: glyphs of the list, so many from one on. Conditions: a list as the slice says; numbers of an entry. -/
namespace Go.Proofs.Ytbicnkopmamnpaa
open Go.RowKit Go.Lib

theorem made_ints (n : Nat) : (madeCells (Value.int .i64 0).cells (n * 1)).toList = iv (List.replicate n 0) := by
  apply List.ext_getElem?
  intro j
  by_cases hj : j < n
  · simp [madeCells, Value.cells, iv, hj, Nat.mod_one]
  · rw [List.getElem?_eq_none (by simp [madeCells]; omega), List.getElem?_eq_none (by rw [iv_length, List.length_replicate]; omega)]
/-- The first j are put. -/
def someP (ids : List Int) (m j : Nat) : List Int := ids.take j ++ List.replicate (m - j) 0
theorem someP_zero (ids : List Int) (m : Nat) : someP ids m 0 = List.replicate m 0 := by simp [someP]
theorem someP_all (ids : List Int) (m : Nat) (h : ids.length = m) : someP ids m m = ids := by
  unfold someP
  rw [List.take_of_length_le (by omega), Nat.sub_self]
  simp
theorem someP_set (ids : List Int) (m j : Nat) (z : Int) (hz : ids[j]? = some z) (hl : ids.length = m) : (iv (someP ids m j)).set j (.int .i64 z) = iv (someP ids m (j + 1)) := by
  have hlt := (List.getElem?_eq_some_iff.1 hz).1
  have e : (someP ids m j).set j z = someP ids m (j + 1) := by
    unfold someP
    rw [List.set_append_right _ _ (by rw [List.length_take]; omega), List.length_take, Nat.min_eq_left (by omega), Nat.sub_self, show m - j = (m - (j + 1)) + 1 by omega, List.replicate_succ, List.set_cons_zero, List.take_add_one, hz]
    simp
  rw [← e]
  simp [iv, List.map_set]
theorem idsI_get (li : List UInt8) (k n i : Nat) (h : i < n) : (idsI li k n)[i]? = some ((num li (2 * (k + i)) 2 : Nat) : Int) := by simp [idsI, List.getElem?_map, h]
def SomeIs (li : List UInt8) (k m : Nat) (w : World) (e : Ending) (w' : World) : Prop := ∃ a' c', e = .returned (.slice a' m c') ∧ w'.ownsRow w.heap.size 3 1 (.slice a' m c') m (iv (idsI li k m)) ∧ Below w.heap.size w w'
set_option maxRecDepth 100000 in
set_option maxHeartbeats 1600000 in
theorem some_none (p : Value) (k n : Nat) (li : List UInt8) (hk : k ≤ 65535) (hn : n ≤ 31) (h : n = 0 ∨ k = 65535) (w : World) :
    Calls Try.prog 155 #[p, .int .i64 (k : Nat), .int .i64 (n : Nat)] w (SomeIs li k 0 w) := by
  by_cases h0 : n = 0
  · have d1 : ((n : Int) == 0) = true := by simp; omega
    go_enter Try.func155, Try.ntmps155
    go_wp2_with fail
    go_ret
    exact ⟨none, 0, rfl, World.ownsRow_nil _ _ _ _, blw⟩
  · have d1 : ((n : Int) == 0) = false := by simp; omega
    have d2 : ((k : Int) == 65535) = true := by simp; omega
    clear h
    go_enter Try.func155, Try.ntmps155
    go_wp2_with fail
    go_ret
    exact ⟨none, 0, rfl, World.ownsRow_nil _ _ _ _, blw⟩
set_option maxRecDepth 100000 in
set_option maxHeartbeats 3200000 in
theorem some_yes (gt : Nat) (v0 : Value) (fz : Nat × Nat) (a : Option Addr) (N c : Nat) (li : List UInt8) (k n : Nat) (w : World) (ht : w.heap[gt]? = some (.cells #[v0, .slice a N c] 151 fz)) (h : Has w a (bytesV li)) (hl : li.length = N) (hN : N ≤ c) (hc : c ≤ maxLen) (hk : k < 65535) (hn : n ≤ 31) (h0 : 0 < n) (hin : 2 * k + 2 * n ≤ N) :
    Calls Try.prog 155 #[.pointer (some ⟨gt, 0, none⟩), .int .i64 (k : Nat), .int .i64 (n : Nat)] w (SomeIs li k n w) := by
  have hAC := allocC
  have hAF := allocF
  have qt := fun o => cell_of_heap ht o
  have lt := (Array.getElem?_eq_some_iff.1 ht).1
  have d1 : ((n : Int) == 0) = false := by simp; omega
  have d2 : ((k : Int) == 65535) = false := by simp; omega
  have HRW := Lib.hid (fun W (x : Int) (hx : x = ((2 * k : Nat) : Int)) => rows_z a N c (2 * k) n 2 (2 * n) x (n : Nat) 2 hx rfl rfl W (by omega) (by omega) (.inr (by omega)) (by omega) (by decide) hN hc)
  have hbl : ((li.drop (2 * k)).take (2 * n)).length = 2 * n := by rw [List.length_take, List.length_drop, hl]; omega
  have hhas : Has w (adv a c (2 * k)) (bytesV ((li.drop (2 * k)).take (2 * n))) := by
    have h1 := (h.adv c (2 * k) (by rw [bytesV_length]; omega)).take (2 * n)
    rw [bytesV_drop] at h1
    have e : bytesV ((li.drop (2 * k)).take (2 * n)) = (bytesV (li.drop (2 * k))).take (2 * n) := by simp [bytesV, List.map_take]
    rw [e]
    exact h1
  have HU := Lib.hid (fun W (hW : Below w.heap.size w W) (i : Nat) (hi : i < n) (z : Int) (hz : z = ((2 * i : Nat) : Int)) => show Calls Try.prog 158 #[.agg #[.slice (adv a c (2 * k)) (2 * n) (c - 2 * k)], .int .i64 z] W fun e w' => e = .returned (.int .i64 (num li (2 * (k + i)) 2 : Nat)) ∧ Below W.heap.size W w' from by
    have h1 := u16_z (adv a c (2 * k)) (2 * n) (c - 2 * k) (2 * i) z hz _ W (hhas.below hW) hbl (by omega) (by omega) (Nat.le_trans (Nat.sub_le _ _) hc)
    rwa [num_takeS _ _ _ _ (by omega), num_dropS, show 2 * k + 2 * i = 2 * (k + i) by omega] at h1)
  clear ht h hl hhas hbl hin
  go_enter Try.func155, Try.ntmps155
  go_wp2_with (first
    | (go_at_call 147; (with_reducible refine (HRW.out _ _ (by go_num)).mono ?_); rintro e w1 ⟨rfl, hb1⟩; have HB1 := Lib.hid hb1; have hz1 := hb1.size; clear hb1)
    | (refine wpMake _ rfl _ _ 30 rfl (w1.heap.size + 1) 3 (.int .i64 0) 1 8 Try.underlying30 info_int n rfl rfl (by omega) (by unfold maxLen; omega) (by simp) ?_; intro w2 ho2 hb2; have HO2 := Lib.hid ho2; have HB2 := Lib.hid hb2; clear ho2 hb2))
  obtain ⟨V, hV⟩ : ∃ V, V = w1.alloc (Obj.cells #[.slice (adv a c (2 * k)) (2 * n) (c - 2 * k)] 125) := ⟨_, rfl⟩
  have hb2 := HB2.out
  have ho2 := HO2.out
  rw [← hV] at hb2 ho2
  have hbV : Below w.heap.size w V := by rw [hV]; exact balloc HB1.out _
  have hzV : V.heap.size = w1.heap.size + 1 := by rw [hV]; simp
  have x7 : V.heap[w1.heap.size]? = some (.cells #[.slice (adv a c (2 * k)) (2 * n) (c - 2 * k)] 125 (0, 0)) := by rw [hV]; exact heap_new w1 _ _
  have x72 := (hb2.block _ (by omega)).trans x7
  rw [made_ints, ← someP_zero (idsI li k n) n] at ho2
  obtain ⟨g8, hg8⟩ : ∃ g, g = w1.heap.size + 1 := ⟨_, rfl⟩
  rw [hzV, ← hg8] at ho2
  rw [← hg8]
  have H0 := Lib.hid ho2
  have H7 := Lib.hid x72
  have HB := Lib.hid (hbV.trans (hb2.mono hbV.size))
  have hBw : w.heap.size ≤ g8 := by omega
  have hg8l : w1.heap.size < g8 := by omega
  clear hV hb2 ho2 hbV x7 x72 HB1 HO2 HB2 HRW qt hg8 hzV
  go_loopw [27] (fun x wr => ∃ j : Nat, j ≤ n ∧ x = .int .i64 (j : Nat) ∧ wr.ownsRow g8 3 1 (.slice (some ⟨g8, 0, none⟩) n n) n (iv (someP (idsI li k n) n j)) ∧ wr.heap[w1.heap.size]? = some (.cells #[.slice (adv a c (2 * k)) (2 * n) (c - 2 * k)] 125 (0, 0)) ∧ Below w.heap.size w wr) (fun x _ => n - (RowKit.intOf x).toNat)
  case atStart => exact ⟨0, Nat.zero_le _, rfl, H0.out, H7.out, HB.out⟩
  case round =>
    obtain ⟨j, hj, rfl, ho, h7, hb⟩ := hrel
    rename World => wr
    have HO := Lib.hid ho
    have H7r := Lib.hid h7
    have HBr := Lib.hid hb
    by_cases hlt : j < n
    · obtain ⟨gg, cs, u, hee, hbg, hcs, hcu, _, hfr, hset⟩ := row_at ho j (by omega)
      cases hee
      have q7 := cell_of_heap h7 0
      simp only [List.getElem?_toArray, List.getElem?_cons_zero] at q7
      have l7 := cell_lt q7
      have l8 := cell_lt hcu
      simp only at l7 l8
      have HCS := Lib.hid hcs
      have HST := Lib.hid (someP_set (idsI li k n) n j _ (idsI_get li k n j hlt) (idsI_length _ _ _))
      clear ho h7 hb hcs hset
      go_wp2_with (go_at_call 158; (with_reducible refine (HU.out _ HBr.out j hlt _ (by go_num)).mono ?_); rintro e w3 ⟨rfl, hb3⟩; have HB3 := Lib.hid hb3; have hz3 := hb3.size; have h3c := bc hb3; have h3f := bf hb3; clear hb3)
      go_roundw
      case rel =>
        have ho3 := owns_below HO.out HB3.out (Nat.le_refl _)
        obtain ⟨gg, cs, u, hee, hbg', hcs, _, _, _, hset⟩ := row_at ho3 j (by omega)
        cases hee
        have := hset (.int .i64 (num li (2 * (k + j)) 2 : Nat))
        rw [HST.out] at this
        refine ⟨j + 1, hlt, by go_num, this, ?_, ?_⟩
        · rw [set_heap_other _ (by omega)]
          exact (HB3.out.block _ l7).trans H7r.out
        · exact (HBr.out.trans (HB3.out.mono HBr.out.size)).setCell (p := ⟨g8, j, none⟩) (by show w.heap.size ≤ g8; omega) _
      case measure => simp only [RowKit.intOf]; omega
    · obtain rfl : n = j := by omega
      rw [someP_all _ _ (idsI_length _ _ _)] at HO
      clear ho h7 hb
      go_wp2_with fail
      go_ret
      exact ⟨_, _, rfl, owns_mono HO.out hBw, HBr.out⟩
end Go.Proofs.Ytbicnkopmamnpaa
end
section

/- ins.Take: such a subtable that a View begins with, or it throws. Conditions: as many bytes as the slice says. -/
namespace Go.Proofs.Ytbicnkopmamnpaa
open Go.RowKit Go.Lib

set_option maxRecDepth 100000 in
set_option maxHeartbeats 1600000 in
theorem some_bad (gt : Nat) (v0 : Value) (fz : Nat × Nat) (a : Option Addr) (N c : Nat) (k n : Nat) (w : World) (ht : w.heap[gt]? = some (.cells #[v0, .slice a N c] 151 fz)) (hN : N ≤ c) (hc : c ≤ maxLen) (hk : k < 65535) (hn : n ≤ 31) (h0 : 0 < n) (hbad : ¬ 2 * k + 2 * n ≤ N) :
    Calls Try.prog 155 #[.pointer (some ⟨gt, 0, none⟩), .int .i64 (k : Nat), .int .i64 (n : Nat)] w fun e w' => e = .panicked thrown ∧ Below w.heap.size w w' := by
  have hAC := allocC
  have hAF := allocF
  have qt := fun o => cell_of_heap ht o
  have lt := (Array.getElem?_eq_some_iff.1 ht).1
  have d1 : ((n : Int) == 0) = false := by simp; omega
  have d2 : ((k : Int) == 65535) = false := by simp; omega
  have HRW := Lib.hid (fun W (x : Int) (hx : x = ((2 * k : Nat) : Int)) => rows_zb a N c (2 * k) n 2 x (n : Nat) 2 hx rfl rfl W (by omega) (by decide) (by decide) (by omega) hN hc)
  clear ht hbad
  go_enter Try.func155, Try.ntmps155
  go_wp2_with (go_at_call 147; (with_reducible refine (HRW.out _ _ (by go_num)).mono ?_); rintro e w1 ⟨rfl, hb1⟩)
  exact ⟨rfl, rfl, blw⟩
theorem bits_shr5 (F : Nat) (hF : F ≤ 65535) : bits .and .i64 ((F : Int) / 32) 31 = ((F / 32 % 32 : Nat) : Int) := by
  rw [show (F : Int) / 32 = ((F / 32 : Nat) : Int) by omega, show (31 : Int) = ((31 : Nat) : Int) from rfl, bits_and6 _ _ (by omega) (by decide), show (31 : Nat) = 2 ^ 5 - 1 from rfl, Nat.and_two_pow_sub_one_eq_mod]
theorem bits_low5 (F : Nat) (hF : F ≤ 65535) : bits .and .i64 (F : Int) 31 = ((F % 32 : Nat) : Int) := by
  rw [show (31 : Int) = ((31 : Nat) : Int) from rfl, bits_and6 _ _ (by omega) (by decide), show (31 : Nat) = 2 ^ 5 - 1 from rfl, Nat.and_two_pow_sub_one_eq_mod]
set_option maxRecDepth 100000 in
set_option maxHeartbeats 1600000 in
theorem place_of (gt : Nat) (e : Ent) (li : List UInt8) (w : World) (hF : e.2.1 ≤ 65535)
    (hs : ∀ W, Below w.heap.size w W → Calls Try.prog 155 #[.pointer (some ⟨gt, 0, none⟩), .int .i64 (e.2.2.1 : Nat), .int .i64 (e.2.1 / 32 % 32 : Nat)] W (SomeIs li e.2.2.1 (hereI e) W)) :
    Calls Try.prog 114 #[.pointer (some ⟨gt, 0, none⟩), entV4 e] w (SomeIs li e.2.2.1 (hereI e) w) := by
  have hAC := allocC
  have hAF := allocF
  have HS := Lib.hid hs
  obtain ⟨e0, F, A, Bv⟩ := e
  simp only [entV4] at HS hF ⊢
  have b1 := bits_shr5 F hF
  obtain ⟨m, hm⟩ : ∃ m, m = F / 32 % 32 := ⟨_, rfl⟩
  rw [← hm] at HS b1
  clear hs hm
  go_enter Try.func114, Try.ntmps114
  go_wp2_with (go_at_call 155; (with_reducible refine (HS.out _ (by exact blw)).mono ?_); rintro e w1 ⟨a', c', rfl, ho, hb1⟩; have HO := Lib.hid ho; have hz1 := hb1.size; clear ho)
  go_ret
  exact ⟨a', c', rfl, owns_mono HO.out (by simp), blw⟩
set_option maxRecDepth 100000 in
set_option maxHeartbeats 1600000 in
theorem place_bad (gt : Nat) (e : Ent) (w : World) (hF : e.2.1 ≤ 65535)
    (hs : ∀ W, Below w.heap.size w W → Calls Try.prog 155 #[.pointer (some ⟨gt, 0, none⟩), .int .i64 (e.2.2.1 : Nat), .int .i64 (e.2.1 / 32 % 32 : Nat)] W fun e w' => e = .panicked thrown ∧ Below W.heap.size W w') :
    Calls Try.prog 114 #[.pointer (some ⟨gt, 0, none⟩), entV4 e] w fun e w' => e = .panicked thrown ∧ Below w.heap.size w w' := by
  have hAC := allocC
  have hAF := allocF
  have HS := Lib.hid hs
  obtain ⟨e0, F, A, Bv⟩ := e
  simp only [entV4] at HS hF ⊢
  have b1 := bits_shr5 F hF
  obtain ⟨m, hm⟩ : ∃ m, m = F / 32 % 32 := ⟨_, rfl⟩
  rw [← hm] at HS b1
  clear hs hm
  go_enter Try.func114, Try.ntmps114
  go_wp2_with (go_at_call 155; (with_reducible refine (HS.out _ (by exact blw)).mono ?_); rintro e w1 ⟨rfl, hb1⟩)
  exact ⟨rfl, rfl, blw⟩
theorem place_yes (gt : Nat) (v0 : Value) (fz : Nat × Nat) (a : Option Addr) (N c : Nat) (li : List UInt8) (e : Ent) (w : World) (ht : w.heap[gt]? = some (.cells #[v0, .slice a N c] 151 fz)) (h : Has w a (bytesV li)) (hl : li.length = N) (hN : N ≤ c) (hc : c ≤ maxLen) (hF : e.2.1 ≤ 65535) (hA : e.2.2.1 ≤ 65535) (hin : 0 < hereI e → 2 * e.2.2.1 + 2 * hereI e ≤ N) :
    Calls Try.prog 114 #[.pointer (some ⟨gt, 0, none⟩), entV4 e] w (SomeIs li e.2.2.1 (hereI e) w) := by
  refine place_of gt e li w hF fun W hW => ?_
  have hh : hereI e = if e.2.2.1 = 65535 then 0 else e.2.1 / 32 % 32 := rfl
  by_cases h0 : e.2.1 / 32 % 32 = 0 ∨ e.2.2.1 = 65535
  · rw [show hereI e = 0 by rw [hh]; rcases h0 with h0 | h0 <;> simp [h0]]
    exact some_none _ _ _ li hA (by omega) h0 W
  · rw [show hereI e = e.2.1 / 32 % 32 by rw [hh, if_neg (by omega)]] at hin ⊢
    exact some_yes gt v0 fz a N c li _ _ W ((hW.block gt (Array.getElem?_eq_some_iff.1 ht).1).trans ht) (h.below hW) hl hN hc (by omega) (by omega) (by omega) (hin (by omega))
theorem place_no (gt : Nat) (v0 : Value) (fz : Nat × Nat) (a : Option Addr) (N c : Nat) (e : Ent) (w : World) (ht : w.heap[gt]? = some (.cells #[v0, .slice a N c] 151 fz)) (hN : N ≤ c) (hc : c ≤ maxLen) (hF : e.2.1 ≤ 65535) (hA : e.2.2.1 ≤ 65535) (hin : ¬ (0 < hereI e → 2 * e.2.2.1 + 2 * hereI e ≤ N)) :
    Calls Try.prog 114 #[.pointer (some ⟨gt, 0, none⟩), entV4 e] w fun e w' => e = .panicked thrown ∧ Below w.heap.size w w' := by
  refine place_bad gt e w hF fun W hW => ?_
  have hh : hereI e = if e.2.2.1 = 65535 then 0 else e.2.1 / 32 % 32 := rfl
  have h1 : e.2.2.1 ≠ 65535 := by
    intro h
    rw [hh, if_pos h] at hin
    exact hin (fun h => absurd h (by decide))
  rw [hh, if_neg h1] at hin
  exact some_bad gt v0 fz a N c _ _ W ((hW.block gt (Array.getElem?_eq_some_iff.1 ht).1).trans ht) hN hc (by omega) (by omega) (by omega) (by omega)
set_option maxRecDepth 100000 in
set_option maxHeartbeats 1600000 in
theorem mark_of (gt : Nat) (e : Ent) (li : List UInt8) (w : World) (hF : e.2.1 ≤ 65535)
    (hs : ∀ W, Below w.heap.size w W → Calls Try.prog 155 #[.pointer (some ⟨gt, 0, none⟩), .int .i64 (e.2.2.2 : Nat), .int .i64 (e.2.1 % 32 : Nat)] W (SomeIs li e.2.2.2 (markI e) W)) :
    Calls Try.prog 115 #[.pointer (some ⟨gt, 0, none⟩), entV4 e] w (SomeIs li e.2.2.2 (markI e) w) := by
  have hAC := allocC
  have hAF := allocF
  have HS := Lib.hid hs
  obtain ⟨e0, F, A, Bv⟩ := e
  simp only [entV4] at HS hF ⊢
  have b1 := bits_low5 F hF
  obtain ⟨m, hm⟩ : ∃ m, m = F % 32 := ⟨_, rfl⟩
  rw [← hm] at HS b1
  clear hs hm
  go_enter Try.func115, Try.ntmps115
  go_wp2_with (go_at_call 155; (with_reducible refine (HS.out _ (by exact blw)).mono ?_); rintro e w1 ⟨a', c', rfl, ho, hb1⟩; have HO := Lib.hid ho; have hz1 := hb1.size; clear ho)
  go_ret
  exact ⟨a', c', rfl, owns_mono HO.out (by simp), blw⟩
set_option maxRecDepth 100000 in
set_option maxHeartbeats 1600000 in
theorem mark_bad (gt : Nat) (e : Ent) (w : World) (hF : e.2.1 ≤ 65535)
    (hs : ∀ W, Below w.heap.size w W → Calls Try.prog 155 #[.pointer (some ⟨gt, 0, none⟩), .int .i64 (e.2.2.2 : Nat), .int .i64 (e.2.1 % 32 : Nat)] W fun e w' => e = .panicked thrown ∧ Below W.heap.size W w') :
    Calls Try.prog 115 #[.pointer (some ⟨gt, 0, none⟩), entV4 e] w fun e w' => e = .panicked thrown ∧ Below w.heap.size w w' := by
  have hAC := allocC
  have hAF := allocF
  have HS := Lib.hid hs
  obtain ⟨e0, F, A, Bv⟩ := e
  simp only [entV4] at HS hF ⊢
  have b1 := bits_low5 F hF
  obtain ⟨m, hm⟩ : ∃ m, m = F % 32 := ⟨_, rfl⟩
  rw [← hm] at HS b1
  clear hs hm
  go_enter Try.func115, Try.ntmps115
  go_wp2_with (go_at_call 155; (with_reducible refine (HS.out _ (by exact blw)).mono ?_); rintro e w1 ⟨rfl, hb1⟩)
  exact ⟨rfl, rfl, blw⟩
theorem mark_yes (gt : Nat) (v0 : Value) (fz : Nat × Nat) (a : Option Addr) (N c : Nat) (li : List UInt8) (e : Ent) (w : World) (ht : w.heap[gt]? = some (.cells #[v0, .slice a N c] 151 fz)) (h : Has w a (bytesV li)) (hl : li.length = N) (hN : N ≤ c) (hc : c ≤ maxLen) (hF : e.2.1 ≤ 65535) (hA : e.2.2.2 ≤ 65535) (hin : 0 < markI e → 2 * e.2.2.2 + 2 * markI e ≤ N) :
    Calls Try.prog 115 #[.pointer (some ⟨gt, 0, none⟩), entV4 e] w (SomeIs li e.2.2.2 (markI e) w) := by
  refine mark_of gt e li w hF fun W hW => ?_
  have hh : markI e = if e.2.2.2 = 65535 then 0 else e.2.1 % 32 := rfl
  by_cases h0 : e.2.1 % 32 = 0 ∨ e.2.2.2 = 65535
  · rw [show markI e = 0 by rw [hh]; rcases h0 with h0 | h0 <;> simp [h0]]
    exact some_none _ _ _ li hA (by omega) h0 W
  · rw [show markI e = e.2.1 % 32 by rw [hh, if_neg (by omega)]] at hin ⊢
    exact some_yes gt v0 fz a N c li _ _ W ((hW.block gt (Array.getElem?_eq_some_iff.1 ht).1).trans ht) (h.below hW) hl hN hc (by omega) (by omega) (by omega) (hin (by omega))
theorem mark_no (gt : Nat) (v0 : Value) (fz : Nat × Nat) (a : Option Addr) (N c : Nat) (e : Ent) (w : World) (ht : w.heap[gt]? = some (.cells #[v0, .slice a N c] 151 fz)) (hN : N ≤ c) (hc : c ≤ maxLen) (hF : e.2.1 ≤ 65535) (hA : e.2.2.2 ≤ 65535) (hin : ¬ (0 < markI e → 2 * e.2.2.2 + 2 * markI e ≤ N)) :
    Calls Try.prog 115 #[.pointer (some ⟨gt, 0, none⟩), entV4 e] w fun e w' => e = .panicked thrown ∧ Below w.heap.size w w' := by
  refine mark_bad gt e w hF fun W hW => ?_
  have hh : markI e = if e.2.2.2 = 65535 then 0 else e.2.1 % 32 := rfl
  have h1 : e.2.2.2 ≠ 65535 := by
    intro h
    rw [hh, if_pos h] at hin
    exact hin (fun h => absurd h (by decide))
  rw [hh, if_neg h1] at hin
  exact some_bad gt v0 fz a N c _ _ W ((hW.block gt (Array.getElem?_eq_some_iff.1 ht).1).trans ht) hN hc (by omega) (by omega) (by omega) (by omega)
end Go.Proofs.Ytbicnkopmamnpaa
end
section

/- ins.Take: such a subtable that a View begins with, or it throws. Conditions: as many bytes as the slice says. -/
namespace Go.Proofs.Ytbicnkopmamnpaa
open Go.RowKit Go.Lib

/-- Such a subtable in memory: upon the bytes that it was taken of. -/
structure IIs (L B gt : Nat) (bs : List UInt8) (rs : List RP) (S : Nat) (w : World) : Prop where
  is : ∃ (g : Nat) (a : Option Addr) (c : Nat), w.heap[gt]? = some (.cells #[.pointer (some ⟨g, 0, none⟩), .slice (adv a c (num bs 16 4)) (bs.length - num bs 16 4) (c - num bs 16 4)] 151 (0, 0)) ∧ MIs B g bs 2 rs S w ∧ BHas L a bs w ∧ bs.length ≤ c ∧ c ≤ maxLen
  ge : B ≤ gt
theorem IIs.below {L B gt : Nat} {bs : List UInt8} {rs : List RP} {S : Nat} {w w' : World} (h : IIs L B gt bs rs S w) (hb : Below w.heap.size w w') : IIs L B gt bs rs S w' := by
  obtain ⟨g, a, c, h1, h2, h3, h4, h5⟩ := h.is
  exact ⟨⟨g, a, c, (hb.block gt (Array.getElem?_eq_some_iff.1 h1).1).trans h1, h2.below hb, h3.below hb, h4, h5⟩, h.ge⟩
theorem IIs.mono {L B B' gt : Nat} {bs : List UInt8} {rs : List RP} {S : Nat} {w : World} (h : IIs L B gt bs rs S w) (hB : B' ≤ B) : IIs L B' gt bs rs S w := by
  obtain ⟨g, a, c, h1, h2, h3, h4, h5⟩ := h.is
  exact ⟨⟨g, a, c, h1, h2.mono hB, h3, h4, h5⟩, Nat.le_trans hB h.ge⟩
/-- What an entry puts is in the list. -/
def PutsI (N : Nat) (e : Ent) : Prop := (0 < hereI e → 2 * e.2.2.1 + 2 * hereI e ≤ N) ∧ (0 < markI e → 2 * e.2.2.2 + 2 * markI e ≤ N)
def PutsN (vb : List UInt8) (N j : Nat) : Prop := ∀ i, i < j → PutsI N (entX vb 2 i)
theorem PutsN.step {vb : List UInt8} {N j : Nat} (h : PutsN vb N j) (hj : PutsI N (entX vb 2 j)) : PutsN vb N (j + 1) := by
  intro i hi
  by_cases e : i = j
  · subst e
    exact hj
  · exact h i (by omega)
theorem IOk.puts {bs : List UInt8} {glyphs : Nat} {rs : List RP} {S : Nat} (h : IOk bs glyphs rs S) : PutsN (bs.drop (num bs 12 4)) (bs.length - num bs 16 4) (needE bs S) := fun i hi => by
  have h1 := h.each i hi
  have h2 := h.at_
  exact ⟨fun h => by have := h1.1 h; omega, fun h => by have := h1.2 h; omega⟩
theorem IOk.of {bs : List UInt8} {glyphs : Nat} {rs : List RP} {S : Nat} (hm : MOk bs glyphs 2 rs S) (h20 : 20 ≤ bs.length) (h1 : num bs 16 4 ≤ bs.length) (hg : PutsN (bs.drop (num bs 12 4)) (bs.length - num bs 16 4) (needE bs S)) : IOk bs glyphs rs S :=
  ⟨hm, h20, h1, fun j hj => ⟨fun h => by have := (hg j hj).1 h; omega, fun h => by have := (hg j hj).2 h; omega⟩⟩
def ITkIs (L : Nat) (bs : List UInt8) (glyphs : Nat) (w : World) (e : Ending) (w' : World) : Prop :=
  ((∃ rs S gt, IOk bs glyphs rs S ∧ e = .returned (.pointer (some ⟨gt, 0, none⟩)) ∧ IIs L w.heap.size gt bs rs S w') ∨ ((∀ rs S, ¬ IOk bs glyphs rs S) ∧ e = .panicked thrown)) ∧ Below w.heap.size w w'
set_option maxRecDepth 100000 in
set_option maxHeartbeats 6400000 in
theorem itake_any (L : Nat) (a : Option Addr) (n c : Nat) (bs : List UInt8) (glyphs : Nat) (zg : Int) (hzg : zg = (glyphs : Nat)) (w : World) (hh : Has w a (bytesV bs)) (hfar : 0 < bs.length → BHas L a bs w) (hbl : bs.length = n) (hnc : n ≤ c) (hc : c ≤ maxLen) (hg1 : 1 ≤ glyphs) (hg2 : glyphs ≤ 65535) :
    Calls Try.prog 65 #[.agg #[.slice a n c], .int .i64 zg] w (ITkIs L bs glyphs w) := by
  have hAC := allocC
  have hAF := allocF
  subst hzg
  have HH := Lib.hid hh
  have HL := Lib.hid hbl
  have HUB := Lib.hid (fun (z : Int) (hz : ¬ (0 ≤ z ∧ z + 4 ≤ (n : Int))) W => u32_bad a n c z W hz hnc hc)
  have HU := Lib.hid (fun (j : Nat) (z : Int) (hz : z = (j : Nat)) (W : World) (hW : Below w.heap.size w W) (hj : j + 4 ≤ n) => u32_z a n c j z hz bs W (hh.below hW) hbl hj hnc hc)
  have HRS := Lib.hid (fun (j : Nat) (hj : j ≤ n) W => rest_ok a n c j W hj hnc hc)
  have HRB := Lib.hid (fun (j : Nat) (hj : n < j) W => rest_bad a n c (j : Nat) W (.inr (by omega)))
  have HBH := Lib.hid (fun (W : World) (hW : Below w.heap.size w W) (h0 : 0 < bs.length) => (hfar h0).below hW)
  clear hh hbl hfar
  obtain ⟨W, hW⟩ : ∃ W, W = w.alloc (Obj.cells #[.slice a n c] 125) := ⟨_, rfl⟩
  have hbW : Below w.heap.size w W := by rw [hW]; exact balloc (brefl _) _
  have z2 : W.heap[w.heap.size]? = some (.cells #[.slice a n c] 125 (0, 0)) := by rw [hW]; exact heap_new w _ _
  have q2 := cell_of_heap z2 0
  simp only [List.getElem?_toArray, List.getElem?_cons_zero] at q2
  have l2 : w.heap.size < W.heap.size := by rw [hW]; simp
  have HBW := Lib.hid hbW
  have HUW := Lib.hid (fun (j : Nat) (z : Int) (hz : z = (j : Nat)) (V : World) (hV : Below W.heap.size W V) (hj : j + 4 ≤ n) => HU.out j z hz V (HBW.out.trans (hV.mono HBW.out.size)) hj)
  clear z2 hbW
  by_cases hmo : ∃ rs S, MOk bs glyphs 2 rs S
  case neg =>
    have HNO := Lib.hid (show ∀ rs S, ¬ IOk bs glyphs rs S from fun rs S ho => hmo ⟨rs, S, ho.mok⟩)
    have HTB := Lib.hid (fun V (hV : Below W.heap.size W V) => show Calls Try.prog 111 #[.agg #[.slice a n c], .int .i64 (glyphs : Nat), .int .i64 2] V fun e w' => e = .panicked thrown ∧ Below V.heap.size V w' from mtake_bad a n c bs glyphs 2 V (HH.out.below (HBW.out.trans (hV.mono HBW.out.size))) HL.out hnc hc hg1 hg2 (by decide) (fun rs S h => hmo ⟨rs, S, h⟩))
    clear hmo
    go_enter Try.func65, Try.ntmps65
    go_wp2_with fail
    rw [← hW]
    clear hW
    refine wp_region_tree (.step 0 (.step 1 (.step 3 (.step 4 (.step 2 (.step 5 (.step 6 (.step 7 (.step 8 (.step 9 .nil)))))))))) (by kernel_rfl) (by kernel_rfl) (by kernel_rfl) (by kernel_rfl) (by intro _ _ d_ _ _ h_; cases d_ <;> first | exact h_ | (dsimp +zetaDelta only at h_ ⊢; exact h_)) (fun w' => ∃ p : Wld W [], w' = p.val) (wld_start _ _) ?_
    have hG_ := @wldC W
    (refine tree_quiet gtA (by rfl) (by rfl) (fun K_ hK_ => ?_); go_big_quiet_op; refine hK_ _ ?_; clear hK_ K_)
    (refine tree_quiet gtA (by rfl) (by rfl) (fun K_ hK_ => ?_); go_big_quiet_op; refine hK_ _ ?_; clear hK_ K_)
    (refine tree_quiet gtA (by rfl) (by rfl) (fun K_ hK_ => ?_); go_big_quiet_op; refine hK_ _ ?_; clear hK_ K_)
    (refine tree_quiet gtA (by rfl) (by rfl) (fun K_ hK_ => ?_); go_big_quiet_op; refine hK_ _ ?_; clear hK_ K_)
    (refine tree_run gtA (by rfl) (by rfl) (fun K_ hK_ => ?_); have HK_ := Lib.hid hK_; clear hK_; go_wp2_with ((go_at_call 111; (with_reducible refine (HTB.out _ (by exact blw)).mono ?_); rintro e wa ⟨rfl, hba⟩; have hac := bc hba; have haf := bf hba; have haz := hba.size; try simp only [World.size_alloc, World.size_drew] at haz)); exact ⟨rfl, .inr ⟨HNO.out, rfl⟩, HBW.out.trans (Below.mono (w := W) (by exact blw) HBW.out.size)⟩)
  obtain ⟨rs, S, hmo⟩ := hmo
  have HMO := Lib.hid hmo
  have HTM := Lib.hid (fun V (hV : Below W.heap.size W V) => show Calls Try.prog 111 #[.agg #[.slice a n c], .int .i64 (glyphs : Nat), .int .i64 2] V fun e w' => ∃ g, e = .returned (.pointer (some ⟨g, 0, none⟩)) ∧ MIs V.heap.size g bs 2 rs S w' ∧ Below V.heap.size V w' from mtake_ok a n c bs glyphs 2 rs S V (HH.out.below (HBW.out.trans (hV.mono HBW.out.size))) HL.out hnc hc hg1 hg2 (by decide) hmo)
  clear hmo
  have hP16 := num4_lt bs 16
  by_cases h20 : 20 ≤ n
  case neg =>
    have HNO := Lib.hid (show ∀ rs S, ¬ IOk bs glyphs rs S from fun rs S ho => h20 (by have := ho.l20; rw [HL.out] at this; omega))
    have HB1 := Lib.hid (HUB.out 16 (by omega))
    go_enter Try.func65, Try.ntmps65
    go_wp2_with fail
    rw [← hW]
    clear hW
    refine wp_region_tree (.step 0 (.step 1 (.step 3 (.step 4 (.step 2 (.step 5 (.step 6 (.step 7 (.step 8 (.step 9 .nil)))))))))) (by kernel_rfl) (by kernel_rfl) (by kernel_rfl) (by kernel_rfl) (by intro _ _ d_ _ _ h_; cases d_ <;> first | exact h_ | (dsimp +zetaDelta only at h_ ⊢; exact h_)) (fun w' => ∃ p : Wld W [], w' = p.val) (wld_start _ _) ?_
    have hG_ := @wldC W
    (refine tree_quiet gtA (by rfl) (by rfl) (fun K_ hK_ => ?_); go_big_quiet_op; refine hK_ _ ?_; clear hK_ K_)
    (refine tree_quiet gtA (by rfl) (by rfl) (fun K_ hK_ => ?_); go_big_quiet_op; refine hK_ _ ?_; clear hK_ K_)
    (refine tree_quiet gtA (by rfl) (by rfl) (fun K_ hK_ => ?_); go_big_quiet_op; refine hK_ _ ?_; clear hK_ K_)
    (refine tree_quiet gtA (by rfl) (by rfl) (fun K_ hK_ => ?_); go_big_quiet_op; refine hK_ _ ?_; clear hK_ K_)
    (refine tree_run gtA (by rfl) (by rfl) (fun K_ hK_ => ?_); have HK_ := Lib.hid hK_; clear hK_; go_wp2_with (first | (go_at_call 111; (with_reducible refine (HTM.out _ (by exact blw)).mono ?_); rintro e w1 ⟨g, rfl, hM, hb1⟩; clear hM) | (go_at_call 109; (with_reducible refine (HB1.out _).mono ?_); rintro e wa ⟨rfl, hba⟩; have hac := bc hba; have haf := bf hba; have haz := hba.size; try simp only [World.size_alloc, World.size_drew] at haz)); refine HK_.out _ _ (wld_ofA) ?_; clear HK_)
    (refine tree_run gtA (by rfl) (by rfl) (fun K_ hK_ => ?_); have HK_ := Lib.hid hK_; clear hK_; go_wp2_with (first | (go_at_call 111; (with_reducible refine (HTM.out _ (by exact blw)).mono ?_); rintro e w1 ⟨g, rfl, hM, hb1⟩; clear hM) | (go_at_call 109; (with_reducible refine (HB1.out _).mono ?_); rintro e wa ⟨rfl, hba⟩; have hac := bc hba; have haf := bf hba; have haz := hba.size; try simp only [World.size_alloc, World.size_drew] at haz)); exact ⟨rfl, .inr ⟨HNO.out, rfl⟩, HBW.out.trans (Below.mono (w := W) (by exact blw) HBW.out.size)⟩)
  have HU16 := Lib.hid (fun V hV => HUW.out 16 16 rfl V hV h20)
  obtain ⟨P16, hQ16⟩ : ∃ P, P = num bs 16 4 := ⟨_, rfl⟩
  rw [← hQ16] at HU16 hP16
  have HP16 := Lib.hid hQ16
  clear hQ16
  by_cases hf16 : P16 ≤ n
  case neg =>
    have HNO := Lib.hid (show ∀ rs S, ¬ IOk bs glyphs rs S from fun rs S ho => hf16 (by have := ho.at_; rw [HL.out, ← HP16.out] at this; exact this))
    have HB1 := Lib.hid (HRB.out P16 (by omega))
    go_enter Try.func65, Try.ntmps65
    go_wp2_with fail
    rw [← hW]
    clear hW
    refine wp_region_tree (.step 0 (.step 1 (.step 3 (.step 4 (.step 2 (.step 5 (.step 6 (.step 7 (.step 8 (.step 9 .nil)))))))))) (by kernel_rfl) (by kernel_rfl) (by kernel_rfl) (by kernel_rfl) (by intro _ _ d_ _ _ h_; cases d_ <;> first | exact h_ | (dsimp +zetaDelta only at h_ ⊢; exact h_)) (fun w' => ∃ p : Wld W [], w' = p.val) (wld_start _ _) ?_
    have hG_ := @wldC W
    (refine tree_quiet gtA (by rfl) (by rfl) (fun K_ hK_ => ?_); go_big_quiet_op; refine hK_ _ ?_; clear hK_ K_)
    (refine tree_quiet gtA (by rfl) (by rfl) (fun K_ hK_ => ?_); go_big_quiet_op; refine hK_ _ ?_; clear hK_ K_)
    (refine tree_quiet gtA (by rfl) (by rfl) (fun K_ hK_ => ?_); go_big_quiet_op; refine hK_ _ ?_; clear hK_ K_)
    (refine tree_quiet gtA (by rfl) (by rfl) (fun K_ hK_ => ?_); go_big_quiet_op; refine hK_ _ ?_; clear hK_ K_)
    (refine tree_run gtA (by rfl) (by rfl) (fun K_ hK_ => ?_); have HK_ := Lib.hid hK_; clear hK_; go_wp2_with (first | (go_at_call 111; (with_reducible refine (HTM.out _ (by exact blw)).mono ?_); rintro e w1 ⟨g, rfl, hM, hb1⟩; clear hM) | (go_at_call 109; (with_reducible refine (HU16.out _ (by exact blw)).mono ?_); rintro e wa ⟨rfl, hba⟩; have hac := bc hba; have haf := bf hba; have haz := hba.size; try simp only [World.size_alloc, World.size_drew] at haz) | (go_at_call 112; (with_reducible refine (HB1.out _).mono ?_); rintro e wb ⟨rfl, hbb⟩; have hbc := bc hbb; have hbf := bf hbb; have hbz := hbb.size; try simp only [World.size_alloc, World.size_drew] at hbz)); refine HK_.out _ _ (wld_ofA) ?_; clear HK_)
    (refine tree_run gtA (by rfl) (by rfl) (fun K_ hK_ => ?_); have HK_ := Lib.hid hK_; clear hK_; go_wp2_with (first | (go_at_call 111; (with_reducible refine (HTM.out _ (by exact blw)).mono ?_); rintro e w1 ⟨g, rfl, hM, hb1⟩; clear hM) | (go_at_call 109; (with_reducible refine (HU16.out _ (by exact blw)).mono ?_); rintro e wa ⟨rfl, hba⟩; have hac := bc hba; have haf := bf hba; have haz := hba.size; try simp only [World.size_alloc, World.size_drew] at haz) | (go_at_call 112; (with_reducible refine (HB1.out _).mono ?_); rintro e wb ⟨rfl, hbb⟩; have hbc := bc hbb; have hbf := bf hbb; have hbz := hbb.size; try simp only [World.size_alloc, World.size_drew] at hbz)); refine HK_.out _ _ (wld_ofA) ?_; clear HK_)
    (refine tree_run gtA (by rfl) (by rfl) (fun K_ hK_ => ?_); have HK_ := Lib.hid hK_; clear hK_; go_wp2_with (first | (go_at_call 111; (with_reducible refine (HTM.out _ (by exact blw)).mono ?_); rintro e w1 ⟨g, rfl, hM, hb1⟩; clear hM) | (go_at_call 109; (with_reducible refine (HU16.out _ (by exact blw)).mono ?_); rintro e wa ⟨rfl, hba⟩; have hac := bc hba; have haf := bf hba; have haz := hba.size; try simp only [World.size_alloc, World.size_drew] at haz) | (go_at_call 112; (with_reducible refine (HB1.out _).mono ?_); rintro e wb ⟨rfl, hbb⟩; have hbc := bc hbb; have hbf := bf hbb; have hbz := hbb.size; try simp only [World.size_alloc, World.size_drew] at hbz)); exact ⟨rfl, .inr ⟨HNO.out, rfl⟩, HBW.out.trans (Below.mono (w := W) (by exact blw) HBW.out.size)⟩)
  have HR16 := Lib.hid (HRS.out P16 hf16)
  go_enter Try.func65, Try.ntmps65
  go_wp2_with fail
  rw [← hW]
  clear hW
  refine wp_region_tree (.step 0 (.step 1 (.step 3 (.step 4 (.step 2 (.step 5 (.step 6 (.step 7 (.step 8 (.step 9 .nil)))))))))) (by kernel_rfl) (by kernel_rfl) (by kernel_rfl) (by kernel_rfl) (by intro _ _ d_ _ _ h_; cases d_ <;> first | exact h_ | (dsimp +zetaDelta only at h_ ⊢; exact h_)) (fun w' => ∃ p : Wld W [], w' = p.val) (wld_start _ _) ?_
  have hG_ := @wldC W
  (refine tree_quiet gtA (by rfl) (by rfl) (fun K_ hK_ => ?_); go_big_quiet_op; refine hK_ _ ?_; clear hK_ K_)
  (refine tree_quiet gtA (by rfl) (by rfl) (fun K_ hK_ => ?_); go_big_quiet_op; refine hK_ _ ?_; clear hK_ K_)
  (refine tree_quiet gtA (by rfl) (by rfl) (fun K_ hK_ => ?_); go_big_quiet_op; refine hK_ _ ?_; clear hK_ K_)
  (refine tree_quiet gtA (by rfl) (by rfl) (fun K_ hK_ => ?_); go_big_quiet_op; refine hK_ _ ?_; clear hK_ K_)
  (refine tree_run gtA (by rfl) (by rfl) (fun K_ hK_ => ?_); have HK_ := Lib.hid hK_; clear hK_; go_wp2_with (first | (go_at_call 111; (with_reducible refine (HTM.out _ (by exact blw)).mono ?_); rintro e w1 ⟨g, rfl, hM, hb1⟩; have HM1 := Lib.hid hM; have h1z := hb1.size; clear hM) | (go_at_call 109; (with_reducible refine (HU16.out _ (by exact blw)).mono ?_); rintro e wa ⟨rfl, hba⟩; have hac := bc hba; have haf := bf hba; have haz := hba.size; try simp only [World.size_alloc, World.size_drew] at haz) | (go_at_call 112; (with_reducible refine (HR16.out _).mono ?_); rintro e wb ⟨rfl, hbb⟩; have hbc := bc hbb; have hbf := bf hbb; have hbz := hbb.size; try simp only [World.size_alloc, World.size_drew] at hbz)); refine HK_.out _ _ (wld_ofA) ?_; clear HK_)
  (refine tree_run gtA (by rfl) (by rfl) (fun K_ hK_ => ?_); have HK_ := Lib.hid hK_; clear hK_; go_wp2_with (first | (go_at_call 111; (with_reducible refine (HTM.out _ (by exact blw)).mono ?_); rintro e w1 ⟨g, rfl, hM, hb1⟩; have HM1 := Lib.hid hM; have h1z := hb1.size; clear hM) | (go_at_call 109; (with_reducible refine (HU16.out _ (by exact blw)).mono ?_); rintro e wa ⟨rfl, hba⟩; have hac := bc hba; have haf := bf hba; have haz := hba.size; try simp only [World.size_alloc, World.size_drew] at haz) | (go_at_call 112; (with_reducible refine (HR16.out _).mono ?_); rintro e wb ⟨rfl, hbb⟩; have hbc := bc hbb; have hbf := bf hbb; have hbz := hbb.size; try simp only [World.size_alloc, World.size_drew] at hbz)); refine HK_.out _ _ (wld_ofA) ?_; clear HK_)
  (refine tree_run gtA (by rfl) (by rfl) (fun K_ hK_ => ?_); have HK_ := Lib.hid hK_; clear hK_; go_wp2_with (first | (go_at_call 111; (with_reducible refine (HTM.out _ (by exact blw)).mono ?_); rintro e w1 ⟨g, rfl, hM, hb1⟩; have HM1 := Lib.hid hM; have h1z := hb1.size; clear hM) | (go_at_call 109; (with_reducible refine (HU16.out _ (by exact blw)).mono ?_); rintro e wa ⟨rfl, hba⟩; have hac := bc hba; have haf := bf hba; have haz := hba.size; try simp only [World.size_alloc, World.size_drew] at haz) | (go_at_call 112; (with_reducible refine (HR16.out _).mono ?_); rintro e wb ⟨rfl, hbb⟩; have hbc := bc hbb; have hbf := bf hbb; have hbz := hbb.size; try simp only [World.size_alloc, World.size_drew] at hbz)); refine HK_.out _ _ (wld_ofA) ?_; clear HK_)
  (refine tree_quiet gtA (by rfl) (by rfl) (fun K_ hK_ => ?_); go_big_quiet_op; refine hK_ _ ?_; clear hK_ K_)
  (refine tree_run gtA (by rfl) (by rfl) (fun K_ hK_ => ?_); have HK_ := Lib.hid hK_; clear hK_; go_wp2_with (first | (go_at_call 111; (with_reducible refine (HTM.out _ (by exact blw)).mono ?_); rintro e w1 ⟨g, rfl, hM, hb1⟩; have HM1 := Lib.hid hM; have h1z := hb1.size; clear hM) | (go_at_call 109; (with_reducible refine (HU16.out _ (by exact blw)).mono ?_); rintro e wa ⟨rfl, hba⟩; have hac := bc hba; have haf := bf hba; have haz := hba.size; try simp only [World.size_alloc, World.size_drew] at haz) | (go_at_call 112; (with_reducible refine (HR16.out _).mono ?_); rintro e wb ⟨rfl, hbb⟩; have hbc := bc hbb; have hbf := bf hbb; have hbz := hbb.size; try simp only [World.size_alloc, World.size_drew] at hbz)); refine HK_.out _ _ (wld_ofA) ?_; clear HK_)
  (refine tree_quiet gtA (by rfl) (by rfl) (fun K_ hK_ => ?_); go_big_quiet_op; refine hK_ _ ?_; clear hK_ K_)
  refine tree_nil ?_
  clear hG_
  obtain ⟨V, hV⟩ : ∃ V, V = wb.alloc (Obj.cells #[Value.pointer (some ⟨g, 0, none⟩), Value.slice (adv a c P16) (n - P16) (c - P16)] 151) := ⟨_, rfl⟩
  have hbV : Below W.heap.size W V := by rw [hV]; exact blw
  have hgf : W.heap.size ≤ wb.heap.size := (show Below W.heap.size W wb from by exact blw).size
  have h6 : V.heap[wb.heap.size]? = some (.cells #[.pointer (some ⟨g, 0, none⟩), .slice (adv a c P16) (n - P16) (c - P16)] 151 (0, 0)) := by rw [hV, heap_push, if_pos rfl]
  have hM6 : MIs W.heap.size g bs 2 rs S V := by rw [hV]; exact (HM1.out.below (by exact blw)).mono (by first | omega | exact Nat.le_refl _ | simp)
  rw [← hV]
  obtain ⟨g6, hg6⟩ : ∃ g6, g6 = wb.heap.size := ⟨_, rfl⟩
  rw [← hg6] at h6 hgf ⊢
  have HBV := Lib.hid (HBW.out.trans (hbV.mono HBW.out.size))
  have hbh := HBH.out V HBV.out (by rw [HL.out]; omega)
  have HBHV := Lib.hid hbh
  have H6 := Lib.hid h6
  have HM6 := Lib.hid hM6
  have hwW := HBW.out.size
  have hl6 := (Array.getElem?_eq_some_iff.1 h6).1
  have q6 := fun o => cell_of_heap h6 o
  have HEN := Lib.hid (fun X (hX : Below V.heap.size V X) => entries_any W.heap.size g bs 2 rs S X (hM6.below hX))
  have HPY := Lib.hid (fun X (hX : Below V.heap.size V X) (e : Ent) (hF : e.2.1 ≤ 65535) (hA : e.2.2.1 ≤ 65535) (h : 0 < hereI e → 2 * e.2.2.1 + 2 * hereI e ≤ n - P16) => place_yes g6 _ (0, 0) (adv a c P16) (n - P16) (c - P16) (bs.drop P16) e X ((hX.block g6 hl6).trans h6) ((hbh.adv c P16 (by rw [HL.out]; exact hnc)).below hX).has (by rw [List.length_drop, HL.out]) (by omega) (Nat.le_trans (Nat.sub_le _ _) hc) hF hA h)
  have HPN := Lib.hid (fun X (hX : Below V.heap.size V X) (e : Ent) (hF : e.2.1 ≤ 65535) (hA : e.2.2.1 ≤ 65535) (h : ¬ (0 < hereI e → 2 * e.2.2.1 + 2 * hereI e ≤ n - P16)) => place_no g6 (.pointer (some ⟨g, 0, none⟩)) (0, 0) (adv a c P16) (n - P16) (c - P16) e X ((hX.block g6 hl6).trans h6) (by omega) (Nat.le_trans (Nat.sub_le _ _) hc) hF hA h)
  have HMY := Lib.hid (fun X (hX : Below V.heap.size V X) (e : Ent) (hF : e.2.1 ≤ 65535) (hA : e.2.2.2 ≤ 65535) (h : 0 < markI e → 2 * e.2.2.2 + 2 * markI e ≤ n - P16) => mark_yes g6 _ (0, 0) (adv a c P16) (n - P16) (c - P16) (bs.drop P16) e X ((hX.block g6 hl6).trans h6) ((hbh.adv c P16 (by rw [HL.out]; exact hnc)).below hX).has (by rw [List.length_drop, HL.out]) (by omega) (Nat.le_trans (Nat.sub_le _ _) hc) hF hA h)
  have HMN := Lib.hid (fun X (hX : Below V.heap.size V X) (e : Ent) (hF : e.2.1 ≤ 65535) (hA : e.2.2.2 ≤ 65535) (h : ¬ (0 < markI e → 2 * e.2.2.2 + 2 * markI e ≤ n - P16)) => mark_no g6 (.pointer (some ⟨g, 0, none⟩)) (0, 0) (adv a c P16) (n - P16) (c - P16) e X ((hX.block g6 hl6).trans h6) (by omega) (Nat.le_trans (Nat.sub_le _ _) hc) hF hA h)
  have hN6 := needE_le bs S
  have HOK := Lib.hid (fun h => IOk.of HMO.out (by rw [HL.out]; exact h20) (by rw [HL.out, ← HP16.out]; exact hf16) h)
  have HNOK := Lib.hid (show ¬ PutsN (bs.drop (num bs 12 4)) (bs.length - num bs 16 4) (needE bs S) → ∀ rs S, ¬ IOk bs glyphs rs S from fun hbad rs' S' ho => hbad (by
    obtain ⟨rfl, rfl⟩ := ho.mok.det HMO.out
    exact ho.puts))
  rw [← HP16.out, HL.out] at HOK HNOK
  obtain ⟨M, hM⟩ : ∃ M, M = needE bs S := ⟨_, rfl⟩
  obtain ⟨vb, hvb⟩ : ∃ vb, vb = bs.drop (num bs 12 4) := ⟨_, rfl⟩
  rw [← hM, ← hvb] at HEN HOK HNOK
  rw [← hM] at hN6
  clear hV hbV h6 hM6 hbh hg6 hM hvb HU16 HUW HUB HU HR16 HRS HRB q2
  go_wp2_with (go_at_call 113; (with_reducible refine (HEN.out _ (by exact blw)).mono ?_); rintro e w9 ⟨aE, cE, rfl, ho, _, _, _, hb9⟩; have HHE := Lib.hid (has_of_owns ho); have HB9 := Lib.hid hb9; clear ho hb9)
  go_loopw [23] (fun i wr => ∃ j : Nat, j ≤ M ∧ i = .int .i64 (j : Nat) ∧ PutsN vb (n - P16) j ∧ Below V.heap.size V wr ∧ Below w9.heap.size w9 wr) (fun i _ => M - (RowKit.intOf i).toNat)
  case atStart => exact ⟨0, Nat.zero_le _, rfl, fun i hi => absurd hi (by omega), HB9.out, brefl _⟩
  case round =>
    obtain ⟨j, hj, rfl, hgood, hb, hbe⟩ := hrel
    rename World => wr
    have HG := Lib.hid hgood
    have HB := Lib.hid hb
    have HBE := Lib.hid hbe
    have hzr := hb.size
    clear hgood hb hbe
    by_cases hlt : j < M
    · obtain ⟨gE, oE, rfl, hg, c0, c1, c2, c3⟩ := ent_at (HHE.out.below HBE.out) hlt
      have hle := entX_le vb 2 j
      have HST := Lib.hid (HG.out.step (vb := vb) (N := n - P16) (j := j))
      have HND := Lib.hid (show PutsN vb (n - P16) M → PutsI (n - P16) (entX vb 2 j) from fun h => h j hlt)
      generalize entX vb 2 j = E at *
      obtain ⟨e0, F, A, Bv⟩ := E
      simp only at c0 c1 c2 c3 hle
      obtain ⟨_, hF6, hA6, hB6⟩ := hle
      have hpy := fun X (hX : Below V.heap.size V X) => HPY.out X hX (e0, F, A, Bv) hF6 hA6
      have hpn := fun X (hX : Below V.heap.size V X) => HPN.out X hX (e0, F, A, Bv) hF6 hA6
      have hmy := fun X (hX : Below V.heap.size V X) => HMY.out X hX (e0, F, A, Bv) hF6 hB6
      have hmn := fun X (hX : Below V.heap.size V X) => HMN.out X hX (e0, F, A, Bv) hF6 hB6
      simp only [entV4] at hpy hpn hmy hmn
      have HPY1 := Lib.hid hpy
      have HPN1 := Lib.hid hpn
      have HMY1 := Lib.hid hmy
      have HMN1 := Lib.hid hmn
      clear hpy hpn hmy hmn
      by_cases h1 : 0 < hereI (e0, F, A, Bv) → 2 * A + 2 * hereI (e0, F, A, Bv) ≤ n - P16
      · have H1 := Lib.hid h1
        clear h1
        by_cases h2 : 0 < markI (e0, F, A, Bv) → 2 * Bv + 2 * markI (e0, F, A, Bv) ≤ n - P16
        · have H2 := Lib.hid h2
          clear h2
          go_wp2_with (first
            | (go_at_call 114; (with_reducible refine (HPY1.out _ (bthen HB.out (by exact blw)) H1.out).mono ?_); rintro e wa ⟨_, _, rfl, _, hba⟩; have hba2 := bthen (balloc (brefl wr) (.cells #[.int .i64 (e0 : Nat), .int .i64 (F : Nat), .int .i64 (A : Nat), .int .i64 (Bv : Nat)] 34)) hba; have HBA := Lib.hid hba2; have hza := hba2.size; have hac := bc hba; have haf := bf hba; clear hba hba2)
            | (go_at_call 115; (with_reducible refine (HMY1.out _ (bthen HB.out HBA.out) H2.out).mono ?_); rintro e wb ⟨_, _, rfl, _, hbb⟩; have HBB := Lib.hid (bthen HBA.out hbb); have hzb := hbb.size; clear hbb))
          go_roundw
          case rel => exact ⟨j + 1, hlt, by go_num, HST.out ⟨H1.out, H2.out⟩, bthen HB.out HBB.out, bthen HBE.out HBB.out⟩
          case measure => simp only [RowKit.intOf]; omega
        · have HBAD := Lib.hid (HNOK.out fun h => h2 (HND.out h).2)
          have H2 := Lib.hid h2
          clear h2
          go_wp2_with (first
            | (go_at_call 114; (with_reducible refine (HPY1.out _ (bthen HB.out (by exact blw)) H1.out).mono ?_); rintro e wa ⟨_, _, rfl, _, hba⟩; have hba2 := bthen (balloc (brefl wr) (.cells #[.int .i64 (e0 : Nat), .int .i64 (F : Nat), .int .i64 (A : Nat), .int .i64 (Bv : Nat)] 34)) hba; have HBA := Lib.hid hba2; have hza := hba2.size; have hac := bc hba; have haf := bf hba; clear hba hba2)
            | (go_at_call 115; (with_reducible refine (HMN1.out _ (bthen HB.out HBA.out) H2.out).mono ?_); rintro e wb ⟨rfl, hbb⟩; have HBB := Lib.hid (bthen HBA.out hbb); have hzb := hbb.size; clear hbb))
          exact ⟨rfl, .inr ⟨HBAD.out, rfl⟩, HBV.out.trans ((bthen HB.out HBB.out).mono HBV.out.size)⟩
      · have HBAD := Lib.hid (HNOK.out fun h => h1 (HND.out h).1)
        have H1 := Lib.hid h1
        clear h1
        go_wp2_with (go_at_call 114; (with_reducible refine (HPN1.out _ (bthen HB.out (by exact blw)) H1.out).mono ?_); rintro e wa ⟨rfl, hba⟩; have hba2 := bthen (balloc (brefl wr) (.cells #[.int .i64 (e0 : Nat), .int .i64 (F : Nat), .int .i64 (A : Nat), .int .i64 (Bv : Nat)] 34)) hba; have HBA := Lib.hid hba2; clear hba hba2)
        exact ⟨rfl, .inr ⟨HBAD.out, rfl⟩, HBV.out.trans ((bthen HB.out HBA.out).mono HBV.out.size)⟩
    · obtain rfl : M = j := by omega
      have HJ := Lib.hid (show IIs L w.heap.size g6 bs rs S wr from ⟨⟨g, a, c, by rw [← HP16.out, HL.out]; exact (HB.out.block _ (Array.getElem?_eq_some_iff.1 H6.out).1).trans H6.out, (HM6.out.below HB.out).mono hwW, HBHV.out.below HB.out, by rw [HL.out]; exact hnc, hc⟩, by omega⟩)
      go_wp2_with fail
      go_ret
      exact ⟨.inl ⟨rs, S, g6, HOK.out HG.out, rfl, HJ.out⟩, HBV.out.trans (HB.out.mono HBV.out.size)⟩
theorem itake_ok (L : Nat) (a : Option Addr) (n c : Nat) (bs : List UInt8) (glyphs : Nat) (rs : List RP) (S : Nat) (w : World) (hh : BHas L a bs w) (hbl : bs.length = n) (hnc : n ≤ c) (hc : c ≤ maxLen) (hg1 : 1 ≤ glyphs) (hg2 : glyphs ≤ 65535) (hok : IOk bs glyphs rs S) :
    Calls Try.prog 65 #[.agg #[.slice a n c], .int .i64 (glyphs : Nat)] w fun e w' => ∃ g, e = .returned (.pointer (some ⟨g, 0, none⟩)) ∧ IIs L w.heap.size g bs rs S w' ∧ Below w.heap.size w w' := by
  refine (itake_any L a n c bs glyphs _ rfl w hh.has (fun _ => hh) hbl hnc hc hg1 hg2).mono ?_
  rintro e w' ⟨(⟨rs', S', g, hr, he, ht⟩ | ⟨hno, _⟩), hb⟩
  · obtain ⟨rfl, rfl⟩ := hok.det hr
    exact ⟨g, he, ht, hb⟩
  · exact absurd hok (hno rs S)
theorem itake_bad (L : Nat) (a : Option Addr) (n c : Nat) (bs : List UInt8) (glyphs : Nat) (w : World) (hh : Has w a (bytesV bs)) (hfar : 0 < bs.length → BHas L a bs w) (hbl : bs.length = n) (hnc : n ≤ c) (hc : c ≤ maxLen) (hg1 : 1 ≤ glyphs) (hg2 : glyphs ≤ 65535) (hno : ∀ rs S, ¬ IOk bs glyphs rs S) :
    Calls Try.prog 65 #[.agg #[.slice a n c], .int .i64 (glyphs : Nat)] w fun e w' => e = .panicked thrown ∧ Below w.heap.size w w' := by
  refine (itake_any L a n c bs glyphs _ rfl w hh hfar hbl hnc hc hg1 hg2).mono ?_
  rintro e w' ⟨(⟨rs', S', g, hr, _⟩ | ⟨_, he⟩), hb⟩
  · exact absurd hr (hno rs' S')
  · exact ⟨he, hb⟩
end Go.Proofs.Ytbicnkopmamnpaa
end
section

/- ins.Read: such a subtable that bytes begin with, upon bytes of its own. Conditions: as many bytes as the slice says, no more than a hundred million; glyphs as an int. -/
namespace Go.Proofs.Ytbicnkopmamnpaa
open Go.RowKit Go.Lib

theorem IIs.setOther {L B gt g3 : Nat} {bs : List UInt8} {rs : List RP} {S : Nat} {w : World} {cs : Array Value} {fz : Nat × Nat} (h : IIs L B gt bs rs S w) (hw : w.heap[g3]? = some (.cells cs 35 fz)) (hL : L ≤ g3) (v : Value) : IIs L B gt bs rs S (w.setCell ⟨g3, 0, none⟩ v) := by
  obtain ⟨g, a, c, h1, h2, h3, h4, h5⟩ := h.is
  refine ⟨⟨g, a, c, ?_, h2.setOther (o := 0) hw (by refine ⟨fun k h => ?_, fun k h => ?_, fun k h => ?_, fun k h => ?_, fun k h => ?_, fun k h => ?_, fun k h => ?_⟩ <;> · simp at h) v, h3.setOther hw hL (by decide) v, h4, h5⟩, h.ge⟩
  refine (set_heap_other _ ?_).trans h1
  rintro rfl
  rw [h1] at hw
  injection hw with hw
  injection hw with _ h4 _
  exact absurd h4 (by decide)
def IRead1R (L B : Nat) (w : World) (g3 : Nat) (bs : List UInt8) (glyphs : Nat) (ok : Bool) (w' : World) : Prop :=
  (ok = true ∧ ∃ rs S g, IOk bs glyphs rs S ∧ w'.heap[g3]? = some (.cells #[.pointer (some ⟨g, 0, none⟩)] 35 (0, 0)) ∧ IIs L w.heap.size g bs rs S w' ∧ Below B w w' ∧ w.heap.size ≤ w'.heap.size) ∨
  (ok = false ∧ (∀ rs S, ¬ IOk bs glyphs rs S) ∧ Below w.heap.size w w')
theorem enter_iread1 (args : Array Value) (w : World) : (callFunc 64 args).run Try.prog w = .ok (.enter 64 args) w := by kernel_rfl
set_option maxRecDepth 100000 in
set_option maxHeartbeats 1600000 in
theorem iread1_any (L B : Nat) (a : Option Addr) (n c : Nat) (bs : List UInt8) (glyphs : Nat) (g0 g1 g3 : Nat) (x : Value) (w : World) (h : BHas L a bs w) (hl : bs.length = n) (hn : n ≤ c) (hc : c ≤ maxLen) (hg1 : 1 ≤ glyphs) (hg2 : glyphs ≤ 65535) (hB : B ≤ g3) (hL : L ≤ g3)
    (c0 : w.cell? ⟨g0, 0, none⟩ = some (.slice a n c)) (c1 : w.cell? ⟨g1, 0, none⟩ = some (.int .i64 (glyphs : Nat)))
    (c3 : w.heap[g3]? = some (.cells #[x] 35 (0, 0))) :
    Calls Try.prog 64 #[.pointer (some ⟨g0, 0, none⟩), .pointer (some ⟨g1, 0, none⟩), .pointer (some ⟨g3, 0, none⟩)] w
      fun e w' => (e = .returned (.tuple #[]) ∧ IRead1R L B w g3 bs glyphs true w') ∨ (e = .panicked thrown ∧ IRead1R L B w g3 bs glyphs false w') := by
  have HH := Lib.hid h
  have HL := Lib.hid hl
  have C3 := Lib.hid c3
  have l0 := cell_lt c0
  have l1 := cell_lt c1
  have l3 := (Array.getElem?_eq_some_iff.1 c3).1
  simp only at l0 l1
  clear h hl c3
  by_cases hok : ∃ rs S, IOk bs glyphs rs S
  · obtain ⟨rs, S, hok⟩ := hok
    have HOK := Lib.hid hok
    have HT := Lib.hid (fun W hw => itake_ok L a n c bs glyphs rs S W hw HL.out hn hc hg1 hg2 hok)
    clear hok
    go_enter Try.func64, Try.ntmps64
    go_wp2_with (go_at_call 65; (with_reducible refine (HT.out _ (HH.out.below (by exact blw))).mono ?_); rintro e wb ⟨g, rfl, hown, hbb⟩; have hbz := hbb.size; have HOW := Lib.hid hown; have hB4 : Below w.heap.size w wb := blw; have c4b := (hB4.block g3 l3).trans C3.out; have q4 := cell_of_heap c4b 0; have f4 := froz_of_heap c4b 0; have HC4 := Lib.hid c4b; have HBB := Lib.hid hB4; clear hown hbb hB4 c4b)
    go_end0
    refine .inl ⟨rfl, .inl ⟨rfl, rs, S, g, HOK.out, set_heap_at _ HC4.out, ?_, (HBB.out.mono (Nat.le_of_lt (by omega))).setCell (p := ⟨g3, 0, none⟩) hB _, by have := HBB.out.size; simpa using this⟩⟩
    exact (HOW.out.setOther HC4.out hL (.pointer (some ⟨g, 0, none⟩))).mono (by omega)
  · have HNO := Lib.hid (show ∀ rs S, ¬ IOk bs glyphs rs S from fun rs S ho => hok ⟨rs, S, ho⟩)
    have HT := Lib.hid (fun W (hw : BHas L a bs W) => itake_bad L a n c bs glyphs W hw.has (fun _ => hw) HL.out hn hc hg1 hg2 HNO.out)
    clear hok
    go_enter Try.func64, Try.ntmps64
    go_wp2_with ((go_at_call 65; (with_reducible refine (HT.out _ (HH.out.below (by exact blw))).mono ?_); rintro e wb ⟨rfl, hbb⟩; have hbc := bc hbb; have hbf := bf hbb; have hbz := hbb.size; try simp only [World.size_alloc, World.size_drew] at hbz))
    exact ⟨rfl, .inr ⟨rfl, .inr ⟨rfl, HNO.out, by exact blw⟩⟩⟩
def IRdIs (bs : List UInt8) (zg : Int) (w : World) (e : Ending) (w' : World) : Prop :=
  (((zg < 1 ∨ 65535 < zg) ∧ e = .returned (.tuple #[.pointer none, .int .i64 1])) ∨
   (1 ≤ zg ∧ zg ≤ 65535 ∧ (∀ rs S, ¬ IOk bs zg.toNat rs S) ∧ e = .returned (.tuple #[.pointer none, .int .i64 2])) ∨
   (1 ≤ zg ∧ zg ≤ 65535 ∧ ∃ rs S g, IOk bs zg.toNat rs S ∧ e = .returned (.tuple #[.pointer (some ⟨g, 0, none⟩), .int .i64 0]) ∧ IIs 0 w.heap.size g bs rs S w')) ∧ Below w.heap.size w w'
set_option maxRecDepth 100000 in
set_option maxHeartbeats 3200000 in
theorem iread_any (a : Option Addr) (n c : Nat) (bs : List UInt8) (zg : Int) (w : World) (h : Has w a (bytesV bs)) (hl : bs.length = n) (hsz : n ≤ 100000000) (hzg : -9223372036854775808 ≤ zg ∧ zg ≤ 9223372036854775807) :
    Calls Try.prog 18 #[.slice a n c, .int .i64 zg] w (IRdIs bs zg w) := by
  have HH := Lib.hid h
  have HL := Lib.hid hl
  clear h hl
  have hAC := allocC
  have hAF := allocF
  have hmf : ∀ (fn : Fn) (first cap : Array Value) (w : World), (Instr.makeFunc fn first cap).run Try.prog w = .ok (.func fn first cap) w := fun _ _ _ _ => rfl
  obtain ⟨hn1, hn2⟩ := hzg
  by_cases hb1 : zg < 1
  · go_enter Try.func18, Try.ntmps18
    go_wp2_with fail
    refine bodyPost_ret (v := .tuple #[.pointer none, .int .i64 1]) (by simp [results, Try.results18, go_sem, hAC, hAF]) rfl ?_
    exact ⟨.inl ⟨.inl hb1, rfl⟩, blw⟩
  by_cases hb2 : 65535 < zg
  · go_enter Try.func18, Try.ntmps18
    go_wp2_with fail
    refine bodyPost_ret (v := .tuple #[.pointer none, .int .i64 1]) (by simp [results, Try.results18, go_sem, hAC, hAF]) rfl ?_
    exact ⟨.inl ⟨.inr hb2, rfl⟩, blw⟩
  obtain ⟨G, rfl⟩ : ∃ G : Nat, zg = G := ⟨zg.toNat, by omega⟩
  have HBC := Lib.hid (fun W (hW : Below w.heap.size w W) => bclone_any a n c bs W (HH.out.below hW) HL.out hsz)
  have HOF := Lib.hid (fun a c W => of_any a n c W)
  go_enter Try.func18, Try.ntmps18
  go_wp2_with (first | (go_at_call 63; (with_reducible refine (HBC.out _ (by exact blw)).mono ?_); rintro e wa ⟨a', c', rfl, hown, hc1, hc2, hba⟩; have HOW := Lib.hid hown; have HBA := Lib.hid hba; have hza := hba.size; clear hown hba) | (go_at_call 62; (with_reducible refine (HOF.out _ _ _).mono ?_); rintro e wb ⟨rfl, hbb⟩; have HBB := Lib.hid hbb; have hzb := hbb.size; clear hbb))
  obtain ⟨A, hA⟩ : ∃ A, A = (w.alloc (Obj.cells #[.int .i64 (G : Nat)] 3)).alloc (Obj.cells #[.pointer none] 35) := ⟨_, rfl⟩
  have hbA : Below w.heap.size w A := by rw [hA]; exact balloc (balloc (brefl _) _) _
  have hzA : A.heap.size = w.heap.size + 2 := by rw [hA]; simp
  have hba := HBA.out
  have hbb := HBB.out
  rw [← hA] at hba
  have z1 : A.heap[w.heap.size]? = some (.cells #[.int .i64 (G : Nat)] 3 (0, 0)) := by rw [hA, heap_push, if_neg (by simp), heap_push, if_pos rfl]
  have z3 : A.heap[w.heap.size + 1]? = some (.cells #[.pointer none] 35 (0, 0)) := by rw [hA, heap_push, if_pos (by simp)]
  have hzw := hba.size
  have hzx := hbb.size
  obtain ⟨W, hW⟩ : ∃ W, W = wb.alloc (Obj.cells #[.slice a' n c'] 125) := ⟨_, rfl⟩
  have hbW : Below wb.heap.size wb W := by rw [hW]; exact balloc (brefl _) _
  have hAW : Below A.heap.size A W := bthen (bthen hba hbb) hbW
  have hb : Below w.heap.size w W := hbA.trans (hAW.mono hbA.size)
  have c0 : W.cell? ⟨wb.heap.size, 0, none⟩ = some (.slice a' n c') := by rw [hW]; exact cell_of_heap (heap_new wb (.slice a' n c') _) 0
  have c1 : W.cell? ⟨w.heap.size, 0, none⟩ = some (.int .i64 (G : Nat)) := cell_of_heap ((hAW.block _ (by omega)).trans z1) 0
  have c3 : W.heap[w.heap.size + 1]? = some (.cells #[.pointer none] 35 (0, 0)) := (hAW.block _ (by omega)).trans z3
  have hBH : BHas 0 a' bs W := ((BHas.of_owns HOW.out).below hbb).below hbW
  have hWz : w.heap.size + 2 ≤ W.heap.size := by have := hAW.size; omega
  rw [← hW]
  have HBH := Lib.hid hBH
  clear hW hA
  have HB := Lib.hid hb
  have HT := Lib.hid (try_any 64 _ W (IRead1R 0 w.heap.size W (w.heap.size + 1) bs G) (enter_iread1 _)
    (iread1_any 0 w.heap.size a' n c' bs G _ _ _ _ _ HBH.out HL.out hc1 hc2 (by omega) (by omega) (by omega) (Nat.zero_le _) c0 c1 c3))
  have C3 := Lib.hid c3
  clear c0 c1 c3 hb hBH z1 z3 hba hbb hbA hbW hAW hzA HBC HOF HBA HBB HOW
  refine HT.out.mono ?_
  rintro r w2 ⟨ok, rfl, (⟨rfl, rs, S, g, hok, hG, htb, hb2, hz2⟩ | ⟨rfl, hno, hb2⟩)⟩
  case inr =>
    have HNO := Lib.hid hno
    have HB2 := Lib.hid (HB.out.trans (hb2.mono HB.out.size))
    have q3 := cell_of_heap ((hb2.block (w.heap.size + 1) (by omega)).trans C3.out) 0
    have qf := fun o => froz_of_heap ((hb2.block (w.heap.size + 1) (by omega)).trans C3.out) o
    simp only [List.getElem?_toArray, List.getElem?_cons_zero] at q3
    have hl3 := cell_lt q3
    simp only at hl3
    clear hno hb2 HT
    go_wp2_with fail
    refine bodyPost_ret (v := .tuple #[.pointer none, .int .i64 2]) (by simp [results, Try.results18, go_sem, q3, qf]) rfl ?_
    exact ⟨.inr (.inl ⟨by omega, by omega, HNO.out, rfl⟩), HB2.out.setCell (p := ⟨w.heap.size + 1, 0, none⟩) (by show w.heap.size ≤ w.heap.size + 1; omega) _⟩
  have HOK := Lib.hid hok
  have HB2 := Lib.hid (HB.out.trans hb2)
  have HTB := Lib.hid ((htb.setOther hG (Nat.zero_le _) (.pointer (some ⟨g, 0, none⟩))).mono (show w.heap.size ≤ W.heap.size by omega))
  have q10 := cell_of_heap hG 0
  have qf := fun o => froz_of_heap hG o
  simp only [List.getElem?_toArray, List.getElem?_cons_zero] at q10
  have hgl := (Array.getElem?_eq_some_iff.1 hG).1
  clear hok hb2 hG htb HT hz2
  go_wp2_with fail
  refine bodyPost_ret (v := .tuple #[.pointer (some ⟨g, 0, none⟩), .int .i64 0]) (by simp [results, Try.results18, go_sem, q10, qf]) rfl ?_
  exact ⟨.inr (.inr ⟨by omega, by omega, rs, S, g, HOK.out, rfl, HTB.out⟩), HB2.out.setCell (p := ⟨w.heap.size + 1, 0, none⟩) (by show w.heap.size ≤ w.heap.size + 1; omega) _⟩
theorem iread_some (a : Option Addr) (n c : Nat) (bs : List UInt8) (glyphs : Nat) (zg : Int) (hzg : zg = (glyphs : Nat)) (rs : List RP) (S : Nat) (w : World) (h : Has w a (bytesV bs)) (hl : bs.length = n) (hsz : n ≤ 100000000) (hg1 : 1 ≤ glyphs) (hg2 : glyphs ≤ 65535) (hok : IOk bs glyphs rs S) :
    Calls Try.prog 18 #[.slice a n c, .int .i64 zg] w fun e w' => ∃ g, e = .returned (.tuple #[.pointer (some ⟨g, 0, none⟩), .int .i64 0]) ∧ IIs 0 w.heap.size g bs rs S w' ∧ Below w.heap.size w w' := by
  subst hzg
  refine (iread_any a n c bs _ w h hl hsz (by omega)).mono ?_
  rintro e w' ⟨(⟨hb, _⟩ | ⟨_, _, hno, _⟩ | ⟨_, _, rs', S', g, hr, he, ht⟩), hb'⟩
  · omega
  · exact absurd hok (hno rs S)
  · obtain ⟨rfl, rfl⟩ := hok.det hr
    exact ⟨g, he, ht, hb'⟩
theorem iread_none (a : Option Addr) (n c : Nat) (bs : List UInt8) (glyphs : Nat) (zg : Int) (hzg : zg = (glyphs : Nat)) (w : World) (h : Has w a (bytesV bs)) (hl : bs.length = n) (hsz : n ≤ 100000000) (hg1 : 1 ≤ glyphs) (hg2 : glyphs ≤ 65535) (hno : ∀ rs S, ¬ IOk bs glyphs rs S) :
    Calls Try.prog 18 #[.slice a n c, .int .i64 zg] w fun e w' => e = .returned (.tuple #[.pointer none, .int .i64 2]) ∧ Below w.heap.size w w' := by
  subst hzg
  refine (iread_any a n c bs _ w h hl hsz (by omega)).mono ?_
  rintro e w' ⟨(⟨hb, _⟩ | ⟨_, _, _, he⟩ | ⟨_, _, rs', S', g, hr, _, _⟩), hb'⟩
  · omega
  · exact ⟨he, hb'⟩
  · exact absurd hr (hno rs' S')
end Go.Proofs.Ytbicnkopmamnpaa
end
section

/- ins: glyphs are put ahead of a place, unless they are too many. Conditions: a line in memory; what is remembered along it in a block of the call's own; sizes. -/
namespace Go.Proofs.Ytbicnkopmamnpaa
open Go.RowKit Go.Lib

/-- What is remembered along a line: the own glyph's place, the mark, how many are put, how many are left, whether they were too many. -/
structure RS where
  own : Int
  mark : Int
  put : Int
  lf : Int
  ov : Bool
def runC (gt gl : Nat) (s : RS) : Array Value := #[.pointer (some ⟨gt, 0, none⟩), .pointer (some ⟨gl, 0, none⟩), .int .i64 s.own, .int .i64 s.mark, .int .i64 s.put, .int .i64 s.lf, .bool s.ov]
def insS (l : List (Int × Int)) (s : RS) (z : Int) (ids : List Int) : List (Int × Int) × RS :=
  if s.ov = true ∨ s.lf < ids.length then (l, { s with ov := true })
  else (insG l z ids, ⟨if z ≤ s.own then s.own + ids.length else s.own, if z ≤ s.mark then s.mark + ids.length else s.mark, s.put + ids.length, s.lf - ids.length, false⟩)
/-- What Run of a subtable of layer 18 may change: the line, its row or a new one, and what is remembered. -/
def ownJ (gl gr N : Nat) (bk : Option Nat) (k t : Nat) : Prop := (t = 144 ∧ k = gl) ∨ (t = 130 ∧ (bk = some k ∨ N ≤ k)) ∨ (t = 147 ∧ k = gr)
theorem ownJ_no {gl gr N t : Nat} {bk : Option Nat} (h1 : t ≠ 144) (h2 : t ≠ 130) (h3 : t ≠ 147) : ∀ k, ¬ ownJ gl gr N bk k t := fun _ h => by
  rcases h with ⟨h, _⟩ | ⟨h, _⟩ | ⟨h, _⟩
  · exact h1 h
  · exact h2 h
  · exact h3 h
/-- The line's row is the one at first, or a new one. -/
def RowOf (bk : Option Nat) (N : Nat) (a : Option Addr) : Prop := ∀ k, a.map (·.block) = some k → bk = some k ∨ N ≤ k
theorem GStep.keepM {bk : Option Nat} {B gl gr N c : Nat} {a a' : Option Addr} {l : List (Int × Int)} {w w' : World} (h : GStep B gl a a' w w') (hg : GIs B gl a c l w) (hr : RowOf bk N a) : KeepC B (ownJ gl gr N bk) w w' := by
  refine ⟨h.below, h.below.size, fun k cs t fz hk ho => ?_⟩
  refine h.keep k (Array.getElem?_eq_some_iff.1 hk).1 ?_ ?_
  · rintro rfl
    rw [hg.hd] at hk
    injection hk with hk
    injection hk with _ h2 _
    subst h2
    exact ho (.inl ⟨rfl, rfl⟩)
  · intro e
    rcases hg.row.2 with ⟨hv, _⟩ | ⟨b, cap, cur, hv, _, hh, _⟩
    · injection hv with hv
      rw [hv] at e
      cases e
    · injection hv with hv
      rw [hv] at e
      have hb := hr b (by rw [hv]; rfl)
      cases e
      rw [hh] at hk
      injection hk with hk
      injection hk with _ h2 _
      subst h2
      exact ho (.inr (.inl ⟨rfl, hb⟩))
theorem RowOf.step {bk : Option Nat} {B gl N : Nat} {a a' : Option Addr} {w w' : World} (h : RowOf bk N a) (hs : GStep B gl a a' w w') (hN : N ≤ w.heap.size) : RowOf bk N a' := by
  intro k hk
  rcases hs.new k hk with e | e
  · exact h k e
  · exact .inr (by omega)
/-- The line, and what is remembered. -/
structure LRun (bk : Option Nat) (B gt gl gr N : Nat) (l : List (Int × Int)) (s : RS) (w : World) : Prop where
  line : ∃ a c, GIs B gl a c l w ∧ RowOf bk N a
  run : w.heap[gr]? = some (.cells (runC gt gl s) 147 (0, 0))
theorem LRun.below {bk : Option Nat} {B gt gl gr N : Nat} {l : List (Int × Int)} {s : RS} {w w' : World} (h : LRun bk B gt gl gr N l s w) (hb : Below w.heap.size w w') : LRun bk B gt gl gr N l s w' :=
  ⟨by obtain ⟨a, c, h1, h2⟩ := h.line; exact ⟨a, c, h1.below hb, h2⟩, (hb.block _ (Array.getElem?_eq_some_iff.1 h.run).1).trans h.run⟩
/-- A number that is remembered changes. -/
theorem LRun.set {bk : Option Nat} {B gt gl gr N o : Nat} {l : List (Int × Int)} {s s' : RS} {v : Value} {w : World} (h : LRun bk B gt gl gr N l s w) (hB : B ≤ gr) (e : (runC gt gl s).setIfInBounds o v = runC gt gl s') : LRun bk B gt gl gr N l s' (w.setCell ⟨gr, o, none⟩ v) ∧ KeepC B (ownJ gl gr N bk) w (w.setCell ⟨gr, o, none⟩ v) := by
  obtain ⟨a, c, h1, h2⟩ := h.line
  have hne : gl ≠ gr := by
    rintro rfl
    have := h1.hd.symm.trans h.run
    injection this with this
    injection this with _ h3 _
    exact absurd h3 (by decide)
  refine ⟨⟨⟨a, c, h1.other hne.symm (by rw [← ownBlockS a l.length c]; exact own_neE h1.row h.run (by decide)) _, h2⟩, ?_⟩, ?_⟩
  · have := set_heap_at (o := o) v h.run
    rwa [e] at this
  · exact (KeepC.refl B (ownJ gl gr N bk) w).set hB h.run (.inr (.inr ⟨rfl, rfl⟩)) _
set_option maxRecDepth 100000 in
set_option maxHeartbeats 3200000 in
theorem insert_any (bk : Option Nat) (B gt gl gr N : Nat) (l : List (Int × Int)) (s : RS) (z : Int) (ai : Option Addr) (m ci : Nat) (ids : List Int) (w : World) (h : LRun bk B gt gl gr N l s w) (hi : Has w ai (iv ids)) (hil : ids.length = m) (hBl : B ≤ gl) (hBr : B ≤ gr) (hB : B ≤ w.heap.size) (hN : N ≤ w.heap.size) (hl : l.length ≤ 1000000) (hm : m ≤ 31) (h1 : -1 ≤ s.own ∧ s.own ≤ 1000000000) (h2 : -1 ≤ s.mark ∧ s.mark ≤ 1000000000) (h3 : 0 ≤ s.put ∧ s.put ≤ 1000000000) (h4 : 0 ≤ s.lf ∧ s.lf ≤ 1000000000) :
    Calls Try.prog 121 #[.pointer (some ⟨gr, 0, none⟩), .int .i64 z, .slice ai m ci] w fun e w' => e = .returned (.tuple #[]) ∧ LRun bk B gt gl gr N (insS l s z ids).1 (insS l s z ids).2 w' ∧ KeepC B (ownJ gl gr N bk) w w' := by
  have hAC := allocC
  have hAF := allocF
  obtain ⟨own, mk, put, lf, ov⟩ := s
  simp only at h1 h2 h3 h4
  have qr := fun o => cell_of_heap h.run o
  have fr := fun o => froz_of_heap h.run o
  have lr := (Array.getElem?_eq_some_iff.1 h.run).1
  simp only [runC] at qr
  have H := Lib.hid h
  by_cases hov : ov = true ∨ lf < m
  · have HE := Lib.hid (show insS l ⟨own, mk, put, lf, ov⟩ z ids = (l, ⟨own, mk, put, lf, true⟩) by unfold insS; rw [if_pos (by rw [hil]; exact hov)])
    have HS := Lib.hid (h.set (s' := ⟨own, mk, put, lf, true⟩) (o := 6) (v := .bool true) hBr rfl)
    clear h hi
    cases ov with
    | true =>
      go_enter Try.func121, Try.ntmps121
      go_wp2_with fail
      (try simp only [Exit.inBlock, Exit.then])
      refine bodyPost_ret (results_none rfl _ _ _) rfl ?_
      rw [HE.out]
      exact ⟨rfl, HS.out.1, HS.out.2⟩
    | false =>
      have d1 : decide (lf < (m : Int)) = true := by rcases hov with h | h; cases h; simpa using h
      go_enter Try.func121, Try.ntmps121
      go_wp2_with fail
      (try simp only [Exit.inBlock, Exit.then])
      refine bodyPost_ret (results_none rfl _ _ _) rfl ?_
      rw [HE.out]
      exact ⟨rfl, HS.out.1, HS.out.2⟩
  · obtain rfl : ov = false := by
      cases ov with
      | true => exact absurd (.inl rfl) hov
      | false => rfl
    have hlf : ¬ lf < m := fun h => hov (.inr h)
    have d1 : decide (lf < (m : Int)) = false := by simpa using hlf
    have HE := Lib.hid (show insS l ⟨own, mk, put, lf, false⟩ z ids = (insG l z ids, ⟨if z ≤ own then own + m else own, if z ≤ mk then mk + m else mk, put + m, lf - m, false⟩) by unfold insS; rw [if_neg (by rw [hil]; exact hov), hil])
    obtain ⟨a, c, hg, hrow⟩ := h.line
    have HIN := Lib.hid (gins_any B gl a c l z ai m ci ids w hg hi hil hBl hB hl (by omega))
    have HGS := Lib.hid (fun a' (w1 : World) (hs : GStep B gl a a' w w1) => hs.keepM (gr := gr) hg hrow)
    have HRW := Lib.hid (fun a' (w1 : World) (hs : GStep B gl a a' w w1) => hrow.step hs hN)
    have HRN := Lib.hid (fun a' (w1 : World) (hs : GStep B gl a a' w w1) => (hs.keep gr lr (by
      rintro rfl
      have := hg.hd.symm.trans h.run
      injection this with this
      injection this with _ h3 _
      exact absurd h3 (by decide)) (by rw [← ownBlockS a l.length c]; exact own_neE hg.row h.run (by decide))).trans h.run)
    clear h hi hg hrow hov
    by_cases ho : z ≤ own
    · have d2 : decide (z ≤ own) = true := by simpa using ho
      by_cases hk : z ≤ mk
      · have d3 : decide (z ≤ mk) = true := by simpa using hk
        go_enter Try.func121, Try.ntmps121
        go_wp2_with (go_at_call 157; (with_reducible refine HIN.out.mono ?_); rintro e w1 ⟨a', c', rfl, hg1, hs1⟩; have hr1 := HRN.out _ _ hs1; have HL1 := Lib.hid (show LRun bk B gt gl gr N (insG l z ids) ⟨own, mk, put, lf, false⟩ w1 from ⟨⟨a', c', hg1, HRW.out _ _ hs1⟩, hr1⟩); have HK1 := Lib.hid (HGS.out _ _ hs1); have qr1 := fun o => cell_of_heap hr1 o; have fr1 := fun o => froz_of_heap hr1 o; have lr1 := (Array.getElem?_eq_some_iff.1 hr1).1; simp only [runC] at qr1; clear hg1 hs1 hr1)
        go_end0
        have s1 := HL1.out.set (o := 4) (v := .int .i64 (put + m)) (s' := ⟨own, mk, put + m, lf, false⟩) hBr rfl
        have s2 := s1.1.set (o := 5) (v := .int .i64 (lf - m)) (s' := ⟨own, mk, put + m, lf - m, false⟩) hBr rfl
        have s3 := s2.1.set (o := 2) (v := .int .i64 (own + m)) (s' := ⟨own + m, mk, put + m, lf - m, false⟩) hBr rfl
        have s4 := s3.1.set (o := 3) (v := .int .i64 (mk + m)) (s' := ⟨own + m, mk + m, put + m, lf - m, false⟩) hBr rfl
        rw [HE.out, if_pos ho, if_pos hk]
        exact ⟨rfl, s4.1, HK1.out.trans (s1.2.trans (s2.2.trans (s3.2.trans s4.2)))⟩
      · have d3 : decide (z ≤ mk) = false := by simpa using hk
        go_enter Try.func121, Try.ntmps121
        go_wp2_with (go_at_call 157; (with_reducible refine HIN.out.mono ?_); rintro e w1 ⟨a', c', rfl, hg1, hs1⟩; have hr1 := HRN.out _ _ hs1; have HL1 := Lib.hid (show LRun bk B gt gl gr N (insG l z ids) ⟨own, mk, put, lf, false⟩ w1 from ⟨⟨a', c', hg1, HRW.out _ _ hs1⟩, hr1⟩); have HK1 := Lib.hid (HGS.out _ _ hs1); have qr1 := fun o => cell_of_heap hr1 o; have fr1 := fun o => froz_of_heap hr1 o; have lr1 := (Array.getElem?_eq_some_iff.1 hr1).1; simp only [runC] at qr1; clear hg1 hs1 hr1)
        go_end0
        have s1 := HL1.out.set (o := 4) (v := .int .i64 (put + m)) (s' := ⟨own, mk, put + m, lf, false⟩) hBr rfl
        have s2 := s1.1.set (o := 5) (v := .int .i64 (lf - m)) (s' := ⟨own, mk, put + m, lf - m, false⟩) hBr rfl
        have s3 := s2.1.set (o := 2) (v := .int .i64 (own + m)) (s' := ⟨own + m, mk, put + m, lf - m, false⟩) hBr rfl
        rw [HE.out, if_pos ho, if_neg (show ¬ z ≤ mk by omega)]
        exact ⟨rfl, s3.1, HK1.out.trans (s1.2.trans (s2.2.trans s3.2))⟩
    · have d2 : decide (z ≤ own) = false := by simpa using ho
      by_cases hk : z ≤ mk
      · have d3 : decide (z ≤ mk) = true := by simpa using hk
        go_enter Try.func121, Try.ntmps121
        go_wp2_with (go_at_call 157; (with_reducible refine HIN.out.mono ?_); rintro e w1 ⟨a', c', rfl, hg1, hs1⟩; have hr1 := HRN.out _ _ hs1; have HL1 := Lib.hid (show LRun bk B gt gl gr N (insG l z ids) ⟨own, mk, put, lf, false⟩ w1 from ⟨⟨a', c', hg1, HRW.out _ _ hs1⟩, hr1⟩); have HK1 := Lib.hid (HGS.out _ _ hs1); have qr1 := fun o => cell_of_heap hr1 o; have fr1 := fun o => froz_of_heap hr1 o; have lr1 := (Array.getElem?_eq_some_iff.1 hr1).1; simp only [runC] at qr1; clear hg1 hs1 hr1)
        go_end0
        have s1 := HL1.out.set (o := 4) (v := .int .i64 (put + m)) (s' := ⟨own, mk, put + m, lf, false⟩) hBr rfl
        have s2 := s1.1.set (o := 5) (v := .int .i64 (lf - m)) (s' := ⟨own, mk, put + m, lf - m, false⟩) hBr rfl
        have s4 := s2.1.set (o := 3) (v := .int .i64 (mk + m)) (s' := ⟨own, mk + m, put + m, lf - m, false⟩) hBr rfl
        rw [HE.out, if_neg (show ¬ z ≤ own by omega), if_pos hk]
        exact ⟨rfl, s4.1, HK1.out.trans (s1.2.trans (s2.2.trans s4.2))⟩
      · have d3 : decide (z ≤ mk) = false := by simpa using hk
        go_enter Try.func121, Try.ntmps121
        go_wp2_with (go_at_call 157; (with_reducible refine HIN.out.mono ?_); rintro e w1 ⟨a', c', rfl, hg1, hs1⟩; have hr1 := HRN.out _ _ hs1; have HL1 := Lib.hid (show LRun bk B gt gl gr N (insG l z ids) ⟨own, mk, put, lf, false⟩ w1 from ⟨⟨a', c', hg1, HRW.out _ _ hs1⟩, hr1⟩); have HK1 := Lib.hid (HGS.out _ _ hs1); have qr1 := fun o => cell_of_heap hr1 o; have fr1 := fun o => froz_of_heap hr1 o; have lr1 := (Array.getElem?_eq_some_iff.1 hr1).1; simp only [runC] at qr1; clear hg1 hs1 hr1)
        go_end0
        have s1 := HL1.out.set (o := 4) (v := .int .i64 (put + m)) (s' := ⟨own, mk, put + m, lf, false⟩) hBr rfl
        have s2 := s1.1.set (o := 5) (v := .int .i64 (lf - m)) (s' := ⟨own, mk, put + m, lf - m, false⟩) hBr rfl
        rw [HE.out, if_neg (show ¬ z ≤ own by omega), if_neg (show ¬ z ≤ mk by omega)]
        exact ⟨rfl, s2.1, HK1.out.trans (s1.2.trans s2.2)⟩
end Go.Proofs.Ytbicnkopmamnpaa
end
section

/- ins: what an entry puts at the mark; what it does at a place. Conditions: a subtable, a line and what is remembered along it, in memory; sizes. -/
namespace Go.Proofs.Ytbicnkopmamnpaa
open Go.RowKit Go.Lib

theorem notM_J (gl gr N : Nat) (bk : Option Nat) : notM (ownJ gl gr N bk) := ⟨ownJ_no (by decide) (by decide) (by decide), ownJ_no (by decide) (by decide) (by decide), ownJ_no (by decide) (by decide) (by decide), ownJ_no (by decide) (by decide) (by decide), ownJ_no (by decide) (by decide) (by decide), ownJ_no (by decide) (by decide) (by decide), ownJ_no (by decide) (by decide) (by decide)⟩
theorem IIs.keep {L B gt B0 : Nat} {bs : List UInt8} {rs : List RP} {S : Nat} {own : Nat → Nat → Prop} {w w' : World} (h : IIs L B gt bs rs S w) (hk : KeepC B0 own w w') (hL : L ≤ B0) (hm : notM own) (h1 : ∀ k, ¬ own k 151) (h2 : ∀ k, ¬ own k 5) : IIs L B gt bs rs S w' := by
  obtain ⟨g, a, c, e1, e2, e3, e4, e5⟩ := h.is
  exact ⟨⟨g, a, c, (hk.kept _ _ _ _ e1 (h1 _)).trans e1, e2.keepO hk hm, e3.keep hk hL h2, e4, e5⟩, h.ge⟩
theorem IIs.keepJ {L B gt B0 gl gr N : Nat} {bk : Option Nat} {bs : List UInt8} {rs : List RP} {S : Nat} {w w' : World} (h : IIs L B gt bs rs S w) (hk : KeepC B0 (ownJ gl gr N bk) w w') (hL : L ≤ B0) : IIs L B gt bs rs S w' := h.keep hk hL (notM_J _ _ _ _) (ownJ_no (by decide) (by decide) (by decide)) (ownJ_no (by decide) (by decide) (by decide))
/-- What the subtable's entry puts, in memory. -/
theorem IIs.place {L B gt : Nat} {bs : List UInt8} {rs : List RP} {S : Nat} {w : World} (h : IIs L B gt bs rs S w) (hat : num bs 16 4 ≤ bs.length) (e : Ent) (hF : e.2.1 ≤ 65535) (hA : e.2.2.1 ≤ 65535) (hin : 0 < hereI e → 2 * e.2.2.1 + 2 * hereI e ≤ bs.length - num bs 16 4) :
    Calls Try.prog 114 #[.pointer (some ⟨gt, 0, none⟩), entV4 e] w (SomeIs (bs.drop (num bs 16 4)) e.2.2.1 (hereI e) w) := by
  obtain ⟨g, a, c, e1, _, e3, e4, e5⟩ := h.is
  exact place_yes gt _ (0, 0) _ _ _ _ e w e1 (e3.adv c _ e4).has (by rw [List.length_drop]) (by omega) (Nat.le_trans (Nat.sub_le _ _) e5) hF hA hin
theorem IIs.atmark {L B gt : Nat} {bs : List UInt8} {rs : List RP} {S : Nat} {w : World} (h : IIs L B gt bs rs S w) (hat : num bs 16 4 ≤ bs.length) (e : Ent) (hF : e.2.1 ≤ 65535) (hA : e.2.2.2 ≤ 65535) (hin : 0 < markI e → 2 * e.2.2.2 + 2 * markI e ≤ bs.length - num bs 16 4) :
    Calls Try.prog 115 #[.pointer (some ⟨gt, 0, none⟩), entV4 e] w (SomeIs (bs.drop (num bs 16 4)) e.2.2.2 (markI e) w) := by
  obtain ⟨g, a, c, e1, _, e3, e4, e5⟩ := h.is
  exact mark_yes gt _ (0, 0) _ _ _ _ e w e1 (e3.adv c _ e4).has (by rw [List.length_drop]) (by omega) (Nat.le_trans (Nat.sub_le _ _) e5) hF hA hin
def mkS (li : List UInt8) (l : List (Int × Int)) (s : RS) (e : Ent) : List (Int × Int) × RS :=
  if s.mark = -1 then (l, s) else insS l s (if e.2.1 / 1024 % 2 = 1 then s.mark else s.mark + 1) (idsI li e.2.2.2 (markI e))
theorem markI_le (e : Ent) : markI e ≤ 31 := by unfold markI; split <;> omega
theorem hereI_le (e : Ent) : hereI e ≤ 31 := by unfold hereI; split <;> omega
set_option maxRecDepth 100000 in
set_option maxHeartbeats 3200000 in
theorem putm_any (bk : Option Nat) (L Bt B gt gl gr N : Nat) (bs : List UInt8) (rs : List RP) (S : Nat) (l : List (Int × Int)) (s : RS) (e : Ent) (w : World) (h : LRun bk B gt gl gr N l s w) (hT : IIs L Bt gt bs rs S w) (hat : num bs 16 4 ≤ bs.length) (hBl : B ≤ gl) (hBr : B ≤ gr) (hB : B ≤ w.heap.size) (hN : N ≤ w.heap.size) (hL : L ≤ B) (hl : l.length ≤ 1000000) (hF : e.2.1 ≤ 65535) (hA : e.2.2.2 ≤ 65535) (hin : 0 < markI e → 2 * e.2.2.2 + 2 * markI e ≤ bs.length - num bs 16 4)
    (h1 : -1 ≤ s.own ∧ s.own ≤ 1000000000) (h2 : -1 ≤ s.mark ∧ s.mark ≤ 1000000000) (h3 : 0 ≤ s.put ∧ s.put ≤ 1000000000) (h4 : 0 ≤ s.lf ∧ s.lf ≤ 1000000000) :
    Calls Try.prog 120 #[.pointer (some ⟨gr, 0, none⟩), entV4 e] w fun r w' => r = .returned (.tuple #[]) ∧ LRun bk B gt gl gr N (mkS (bs.drop (num bs 16 4)) l s e).1 (mkS (bs.drop (num bs 16 4)) l s e).2 w' ∧ KeepC B (ownJ gl gr N bk) w w' := by
  have hAC := allocC
  have hAF := allocF
  have qr := fun o => cell_of_heap h.run o
  have lr := (Array.getElem?_eq_some_iff.1 h.run).1
  have hm31 := markI_le e
  have HAM := Lib.hid (fun W (hW : Below w.heap.size w W) => (hT.below hW).atmark hat e hF hA hin)
  have HINS := Lib.hid (fun W (hW : Below w.heap.size w W) (z : Int) (ai : Option Addr) (ci : Nat) (hi : Has W ai (iv (idsI (bs.drop (num bs 16 4)) e.2.2.2 (markI e)))) => insert_any bk B gt gl gr N l s z ai (markI e) ci _ W (h.below hW) hi (idsI_length _ _ _) hBl hBr (Nat.le_trans hB hW.size) (Nat.le_trans hN hW.size) hl hm31 h1 h2 h3 h4)
  have H := Lib.hid h
  obtain ⟨li, hli⟩ : ∃ li, li = bs.drop (num bs 16 4) := ⟨_, rfl⟩
  rw [← hli] at HAM HINS
  rw [← hli]
  obtain ⟨m, hm⟩ : ∃ m, m = markI e := ⟨_, rfl⟩
  have HMK := Lib.hid (show mkS li l s e = if s.mark = -1 then (l, s) else insS l s (if e.2.1 / 1024 % 2 = 1 then s.mark else s.mark + 1) (idsI li e.2.2.2 m) by rw [hm]; rfl)
  rw [← hm] at HAM HINS
  obtain ⟨e0, F, A, Bv⟩ := e
  simp only [entV4] at HAM HINS HMK hF ⊢
  obtain ⟨own, mk, put, lf, ov⟩ := s
  simp only [runC] at qr
  simp only at h1 h2 h3 h4 HMK
  clear h hT hli hin hm
  by_cases hmk : mk = -1
  · subst hmk
    have HE := Lib.hid (show mkS li l ⟨own, -1, put, lf, ov⟩ (e0, F, A, Bv) = (l, ⟨own, -1, put, lf, ov⟩) by rw [HMK.out, if_pos rfl])
    go_enter Try.func120, Try.ntmps120
    go_wp2_with fail
    (try simp only [Exit.inBlock, Exit.then])
    refine bodyPost_ret (results_none rfl _ _ _) rfl ?_
    rw [HE.out]
    exact ⟨rfl, H.out.below (by exact blw), KeepC.of (by exact blw) hB⟩
  have d1 : (mk == -1) = false := by simpa using hmk
  obtain ⟨W, hW⟩ : ∃ W, W = w.alloc (Obj.cells #[.int .i64 (e0 : Nat), .int .i64 (F : Nat), .int .i64 (A : Nat), .int .i64 (Bv : Nat)] 34) := ⟨_, rfl⟩
  have hbW : Below w.heap.size w W := by rw [hW]; exact balloc (brefl _) _
  have xe : W.heap[w.heap.size]? = some (.cells #[.int .i64 (e0 : Nat), .int .i64 (F : Nat), .int .i64 (A : Nat), .int .i64 (Bv : Nat)] 34 (0, 0)) := by rw [hW]; exact (heap_push _ _ _).trans (if_pos rfl)
  have qe := fun o => cell_of_heap xe o
  have le := (Array.getElem?_eq_some_iff.1 xe).1
  have xr := (hbW.block _ lr).trans H.out.run
  have qrw := fun o => cell_of_heap xr o
  simp only [runC] at qrw
  have lrw := (Array.getElem?_eq_some_iff.1 xr).1
  have HBW := Lib.hid hbW
  have HIW := Lib.hid (fun V (hV : Below W.heap.size W V) => HAM.out V (HBW.out.trans (hV.mono HBW.out.size)))
  have HNW := Lib.hid (fun V (hV : Below W.heap.size W V) => HINS.out V (HBW.out.trans (hV.mono HBW.out.size)))
  clear hbW xe xr
  by_cases hb : F / 1024 % 2 = 1
  · have bF : bits .and .i64 (F : Int) 1024 = 1024 := flag_yes F 10 hF (by decide) 1024 rfl hb
    have HE := Lib.hid (show mkS li l ⟨own, mk, put, lf, ov⟩ (e0, F, A, Bv) = insS l ⟨own, mk, put, lf, ov⟩ mk (idsI li Bv m) by rw [HMK.out, if_neg hmk, if_pos hb])
    clear hb
    go_enter Try.func120, Try.ntmps120
    go_wp2_with fail
    rw [← hW]
    clear hW
    refine wp_region_lastY (.step 0 (.step 1 (.step 2 (.step 3 (.step 4 (.step 5 (.step 6 (.step 7 (.step 8 .nil))))))))) 8 (by kernel_rfl) (by kernel_rfl) (by kernel_rfl) (by kernel_rfl) (by kernel_rfl) (by intro _ _ d_ _ _ h_; cases d_ <;> first | exact h_ | (dsimp +zetaDelta only at h_ ⊢; exact h_)) (fun w' => ∃ p : Wld W [], w' = p.val) (wld_start _ _) ?_
    have hG_ := @wldC W
    (refine z_quiet gtA (by rfl) (by rfl) (fun K_ hK_ => ?_); go_big_quiet_op; refine hK_ _ ?_; clear hK_ K_)
    (refine z_quiet gtA (by rfl) (by rfl) (fun K_ hK_ => ?_); go_big_quiet_op; refine hK_ _ ?_; clear hK_ K_)
    (refine z_quiet gtA (by rfl) (by rfl) (fun K_ hK_ => ?_); go_big_quiet_op; refine hK_ _ ?_; clear hK_ K_)
    (refine z_quiet gtA (by rfl) (by rfl) (fun K_ hK_ => ?_); go_big_quiet_op; refine hK_ _ ?_; clear hK_ K_)
    (refine z_quiet gtA (by rfl) (by rfl) (fun K_ hK_ => ?_); go_big_quiet_op; refine hK_ _ ?_; clear hK_ K_)
    (refine z_quiet gtA (by rfl) (by rfl) (fun K_ hK_ => ?_); go_big_quiet_op; refine hK_ _ ?_; clear hK_ K_)
    (refine z_quiet gtA (by rfl) (by rfl) (fun K_ hK_ => ?_); go_big_quiet_op; refine hK_ _ ?_; clear hK_ K_)
    (refine z_run gtA (by rfl) (by rfl) (fun K_ hK_ => ?_); have HK_ := Lib.hid hK_; clear hK_; go_wp2_with (first | (go_at_call 115; (with_reducible refine (HIW.out _ (by exact blw)).mono ?_); rintro e w2 ⟨a', c', rfl, ho, hb2⟩; have HH := Lib.hid (has_of_owns ho); have hbW2 : Below W.heap.size W w2 := (by exact blw); have HB2 := Lib.hid hbW2; clear ho hbW2) | (go_at_call 121; (with_reducible refine (HNW.out _ HB2.out _ _ _ HH.out).mono ?_); rintro e w3 ⟨rfl, h5, h6⟩; have H5 := Lib.hid h5; have H6 := Lib.hid h6; clear h5 h6)); refine HK_.out _ _ (wld_ofA) ?_; clear HK_)
    (refine z_last gtA (by rfl) (by rfl) (by rfl) (fun K_ hK_ => ?_); have HK_ := Lib.hid hK_; clear hK_; go_wp2_with (first | (go_at_call 115; (with_reducible refine (HIW.out _ (by exact blw)).mono ?_); rintro e w2 ⟨a', c', rfl, ho, hb2⟩; have HH := Lib.hid (has_of_owns ho); have hbW2 : Below W.heap.size W w2 := (by exact blw); have HB2 := Lib.hid hbW2; clear ho hbW2) | (go_at_call 121; (with_reducible refine (HNW.out _ HB2.out _ _ _ HH.out).mono ?_); rintro e w3 ⟨rfl, h5, h6⟩; have H5 := Lib.hid h5; have H6 := Lib.hid h6; clear h5 h6)); refine HK_.out _ _ ?_; clear HK_)
    refine z_nil ?_
    clear hG_
    go_end0
    rw [HE.out]
    exact ⟨rfl, H5.out, (KeepC.of (HBW.out.trans (HB2.out.mono HBW.out.size)) hB).trans H6.out⟩
  · have bF : bits .and .i64 (F : Int) 1024 = 0 := flag_no F 10 hF (by decide) 1024 rfl hb
    have HE := Lib.hid (show mkS li l ⟨own, mk, put, lf, ov⟩ (e0, F, A, Bv) = insS l ⟨own, mk, put, lf, ov⟩ (mk + 1) (idsI li Bv m) by rw [HMK.out, if_neg hmk, if_neg hb])
    clear hb
    go_enter Try.func120, Try.ntmps120
    go_wp2_with fail
    rw [← hW]
    clear hW
    refine wp_region_lastY (.step 0 (.step 1 (.step 2 (.step 3 (.step 4 (.step 5 (.step 6 (.step 7 (.step 8 .nil))))))))) 8 (by kernel_rfl) (by kernel_rfl) (by kernel_rfl) (by kernel_rfl) (by kernel_rfl) (by intro _ _ d_ _ _ h_; cases d_ <;> first | exact h_ | (dsimp +zetaDelta only at h_ ⊢; exact h_)) (fun w' => ∃ p : Wld W [], w' = p.val) (wld_start _ _) ?_
    have hG_ := @wldC W
    (refine z_quiet gtA (by rfl) (by rfl) (fun K_ hK_ => ?_); go_big_quiet_op; refine hK_ _ ?_; clear hK_ K_)
    (refine z_quiet gtA (by rfl) (by rfl) (fun K_ hK_ => ?_); go_big_quiet_op; refine hK_ _ ?_; clear hK_ K_)
    (refine z_quiet gtA (by rfl) (by rfl) (fun K_ hK_ => ?_); go_big_quiet_op; refine hK_ _ ?_; clear hK_ K_)
    (refine z_quiet gtA (by rfl) (by rfl) (fun K_ hK_ => ?_); go_big_quiet_op; refine hK_ _ ?_; clear hK_ K_)
    (refine z_quiet gtA (by rfl) (by rfl) (fun K_ hK_ => ?_); go_big_quiet_op; refine hK_ _ ?_; clear hK_ K_)
    (refine z_quiet gtA (by rfl) (by rfl) (fun K_ hK_ => ?_); go_big_quiet_op; refine hK_ _ ?_; clear hK_ K_)
    (refine z_quiet gtA (by rfl) (by rfl) (fun K_ hK_ => ?_); go_big_quiet_op; refine hK_ _ ?_; clear hK_ K_)
    (refine z_run gtA (by rfl) (by rfl) (fun K_ hK_ => ?_); have HK_ := Lib.hid hK_; clear hK_; go_wp2_with (first | (go_at_call 115; (with_reducible refine (HIW.out _ (by exact blw)).mono ?_); rintro e w2 ⟨a', c', rfl, ho, hb2⟩; have HH := Lib.hid (has_of_owns ho); have hbW2 : Below W.heap.size W w2 := (by exact blw); have HB2 := Lib.hid hbW2; clear ho hbW2) | (go_at_call 121; (with_reducible refine (HNW.out _ HB2.out _ _ _ HH.out).mono ?_); rintro e w3 ⟨rfl, h5, h6⟩; have H5 := Lib.hid h5; have H6 := Lib.hid h6; clear h5 h6)); refine HK_.out _ _ (wld_ofA) ?_; clear HK_)
    (refine z_last gtA (by rfl) (by rfl) (by rfl) (fun K_ hK_ => ?_); have HK_ := Lib.hid hK_; clear hK_; go_wp2_with (first | (go_at_call 115; (with_reducible refine (HIW.out _ (by exact blw)).mono ?_); rintro e w2 ⟨a', c', rfl, ho, hb2⟩; have HH := Lib.hid (has_of_owns ho); have hbW2 : Below W.heap.size W w2 := (by exact blw); have HB2 := Lib.hid hbW2; clear ho hbW2) | (go_at_call 121; (with_reducible refine (HNW.out _ HB2.out _ _ _ HH.out).mono ?_); rintro e w3 ⟨rfl, h5, h6⟩; have H5 := Lib.hid h5; have H6 := Lib.hid h6; clear h5 h6)); refine HK_.out _ _ ?_; clear HK_)
    refine z_nil ?_
    clear hG_
    go_end0
    rw [HE.out]
    exact ⟨rfl, H5.out, (KeepC.of (HBW.out.trans (HB2.out.mono HBW.out.size)) hB).trans H6.out⟩
end Go.Proofs.Ytbicnkopmamnpaa
end
