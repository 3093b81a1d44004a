
/- The contract of the document's Make, for parts that may be: the walk. Conditions: tags of four bytes, no two alike; no more than 1000 parts of no more than 100000 bytes. -/
import Derived.Test.YthacabmnnpibkaaRMake
import Derived.Lib.ConvBytes
namespace Go.Proofs.Ythacabmnnpibkaa
open Go.RowKit Go.Lib

theorem rpart_info : (Try.prog.info? 27).map (fun i => (i.zero, i.size, i.bytes)) = some (some (.agg #[.string .empty, .slice none 0 0]), 2, 40) := by kernel_rfl
theorem owns_has2 {w : World} {base n c : Nat} {a : Option Addr} {ps : List PartV} (h : w.ownsRow base 27 2 (.slice a n c) n (encAll ps)) : Has w a (encAll ps) := has_of_owns h
theorem put_z (base : Nat) (a : Option Addr) (n c z size : Nat) (zi si : Int) (hz : zi = (z : Nat)) (hsi : si = (size : Nat)) (xs : List UInt8) (w : World) (hown : w.ownsRow base 5 1 (.slice a n c) n (bytesV xs)) (hbase : base ≤ w.heap.size) (hz2 : z < 9223372036854775808) (hn : n ≤ 1000000000) (hs : size ≤ 8) :
    Calls Try.prog 18 #[.slice a n c, .int .i64 zi, .int .i64 si] w fun e w' => ∃ a' c', e = .returned (.slice a' (n + size) c') ∧ w'.ownsRow base 5 1 (.slice a' (n + size) c') (n + size) (bytesV (xs ++ beN size z)) ∧ n + size ≤ c' ∧ c' ≤ maxLen ∧ (a' = none → c' = 0) ∧ Below base w w' ∧ Kept w w' := by
  subst hz; subst hsi; exact put_any base a n c z size xs w hown hbase hz2 hn hs
/-- '[]byte(s)': new bytes, these. -/
theorem conv_any (w : World) (s : ByteArray) (hs : s.size ≤ maxLen) : ∃ C W, (convert 9 22 (.string s)).run Try.prog w = .ok (.slice (some ⟨w.heap.size, 0, none⟩) s.size C) W ∧ Below w.heap.size w W ∧ Has W (some ⟨w.heap.size, 0, none⟩) (bytesV s.data.toList) ∧ W.heap.size = w.heap.size + 1 ∧ s.size ≤ C ∧ C ≤ maxLen := by
  refine ⟨_, _, Lib.run_convert_string_bytes w 9 22 5 s Try.underlying9 Try.underlying22 Try.underlying5, ?_, ?_, Lib.bytesWorld_size _ _ _, grownCap_ge _ _ _ _, grownCap_le_maxLen _ _ _ _ hs⟩
  · refine ⟨?_, ?_, ?_, by rw [Lib.bytesWorld_size]; omega, fun j hj => Lib.bytesWorld_at_old _ _ _ j hj⟩ <;> (unfold Lib.bytesWorld World.freeze; rw [if_neg (by decide)]; rfl)
  · refine has_of fun j u hu => ?_
    have hj : j < s.size := by
      have := (List.getElem?_eq_some_iff.1 hu).1
      rw [bytesV_length] at this
      exact this
    rw [Nat.zero_add, Lib.bytesWorld_cell w _ s j hj, ← hu, bytesV_get _ _ (by exact hj)]
def lenV : Value → Nat | .slice _ n _ => n | _ => 0
def RRel1 (W : World) (rs : List PartV) (n : Nat) (out last first : Value) (wr : World) : Prop :=
  ∃ k a c, k ≤ n ∧ out = .slice a k c ∧ wr.ownsRow W.heap.size 27 2 out k (encAll (rs.take k)) ∧ last = .string (lastTag rs k) ∧ first = .bool (decide (k = 0)) ∧ k ≤ c ∧ c ≤ maxLen ∧ (a = none → c = 0) ∧ Below W.heap.size W wr

set_option maxRecDepth 100000 in
set_option maxHeartbeats 3200000 in
theorem rmake_any (a : Option Addr) (n c : Nat) (ps : List PartV) (w : World) (h : Has w a (encAll ps)) (hl : ps.length = n) (hn : n ≤ c) (hc : c ≤ maxLen) (hn2 : n ≤ 1000) (hn0 : 0 < n) (hok : ∀ p ∈ ps, p.ok w) (h4 : ∀ p ∈ ps, p.tag.size = 4) (hap : Apart ps) :
    Calls Try.prog 12 #[.slice a n c] w fun e w' => ∃ rs : List PartV, rs.Perm ps ∧ Rises rs ∧ fine rs ∧ ∃ a' c', e = .returned (.slice a' (font rs).length c') ∧ w'.ownsRow w.heap.size 5 1 (.slice a' (font rs).length c') (font rs).length (bytesV (font rs)) ∧ (font rs).length ≤ c' ∧ c' ≤ maxLen ∧ (a' = none → c' = 0) ∧ Below w.heap.size w w' := by
  obtain ⟨rs, hp, hr⟩ := exists_sorted ps
  have HH := Lib.hid h
  have HL := Lib.hid hl
  have HK := Lib.hid hok
  have HP := Lib.hid hp
  have HR := Lib.hid hr
  have HT4 := Lib.hid (fun p hp' => h4 p (hp.mem_iff.1 hp') : ∀ p ∈ rs, p.tag.size = 4)
  have HLS := Lib.hid (show rs.length = n by rw [hp.length_eq, hl])
  have HNX := Lib.hid (fun k (hk : k < n) v h => least_next (k := k) (v := v) hp hr hap hl hk h)
  have HF := Lib.hid (show fine rs from (fine_iff hr).2 ⟨fun p hp' => h4 p (hp.mem_iff.1 hp'), apart_perm hp.symm hap, by rw [hp.length_eq, hl]; omega⟩)
  clear h hl hok hp hr h4 hap
  have hAC := allocC
  go_enter Try.func12, Try.ntmps12
  go_wp2_with fail
  go_loopw [3, 4, 5] (RRel1 w rs n) (fun out _ _ _ => n - (lenV out))
  case atStart => exact ⟨0, some ⟨w.heap.size, 0, none⟩, 0, Nat.zero_le _, rfl, by simpa [encAll] using World.ownsRow_lit (base := w.heap.size) (e := 27) (size := 2) w #[] 0 (Nat.le_refl _) (by decide) rfl, rfl, rfl, Nat.le_refl _, by decide, (fun h => by cases h), balloc (brefl w) _⟩
  case round =>
    obtain ⟨k, a5, c5, hk, rfl, hox, rfl, rfl, k51, k52, k53, hbr⟩ := hrel
    have HX := Lib.hid hox
    have HA5 := Lib.hid k53
    have hzr := hbr.size
    have HBR := Lib.hid hbr
    clear hox k53
    by_cases hlt : k < n
    · have HLE := Lib.hid (least_any a n c ps (lastTag rs k) (decide (k = 0)) wr (HH.out.below hbr) HL.out hn hc)
      generalize hfv : decide (k = 0) = fv at *
      generalize hlv : lastTag rs k = lv at *
      have HFV := Lib.hid hfv
      have HLV := Lib.hid hlv
      clear hfv hlv hbr
      go_wp2_with (go_at_call 24; refine HLE.out.mono ?_)
      rintro e w1 ⟨v, rfl, hb, hb1⟩
      obtain ⟨i, p, hi, hpi, hrk, rfl⟩ := HNX.out k hlt v (by rw [HFV.out, HLV.out]; exact hb)
      have HHR := Lib.hid (HBR.out.trans (hb1.mono hzr))
      obtain ⟨g, o, rfl, hg, x0, x1⟩ := part_at HH.out hpi
      have y0 := (HHR.out.cell (p := ⟨g, o + i * 2, none⟩) hg).trans x0
      have y1 := (HHR.out.cell (p := ⟨g, o + i * 2 + 1, none⟩) hg).trans x1
      have hg1 : g < w1.heap.size := Nat.lt_of_lt_of_le hg HHR.out.size
      have hT4 : p.tag.size = 4 := HT4.out p (List.mem_of_getElem? hrk)
      have HX1 := Lib.hid (owns_below HX.out hb1 (Nat.le_refl _))
      have HTK := Lib.hid (show encAll (rs.take (k + 1)) = encAll (rs.take k) ++ p.enc by rw [take_snoc hrk]; simp [encAll])
      have HLT := Lib.hid (show lastTag rs (k + 1) = p.tag by simp [lastTag, hrk])
      have hz1 := HHR.out.size
      clear hb x0 x1 hb1 hpi hrk
      go_wp2_with (at_builtin; refine wpApp rfl _ _ 24 rfl w.heap.size 27 (.agg #[.string .empty, .slice none 0 0]) 2 40 Try.underlying24 rpart_info rfl (by decide) _ k (encAll (rs.take k)) rfl (owns_below HX1.out (balloc (brefl w1) _) (Nat.le_refl _)) (some ⟨w1.heap.size, 0, none⟩) 1 1 p.enc rfl rfl (has_alloc _ _ _) (fun h => by cases h) (fun u hu => by simp [PartV.enc] at hu; rcases hu with rfl | rfl <;> rfl) (by unfold maxLen; omega) (by omega) (by simp; omega) ?_; intro a6 c6 w6 hown6 k61 k62 k63 hb6 hg6; have HO6 := Lib.hid hown6; have HA6 := Lib.hid k63; have y06 := (hb6.cell (p := ⟨g, o + i * 2, none⟩) hg); rw [hAC, if_neg (show ¬ g = w1.heap.size by omega), y0] at y06; have HB6 := Lib.hid hb6; clear hown6 k63 hb6 hg6)
      go_roundw
      case rel => exact ⟨k + 1, a6, c6, by omega, rfl, by rw [HTK.out]; exact HO6.out, by rw [HLT.out], by simp, k61, k62, HA6.out, (HHR.out.trans ((balloc (brefl w1) _).mono hz1)).trans HB6.out⟩
      case measure => simp [lenV]; omega
    · obtain rfl : n = k := by omega
      have hR : rs.take n = rs := List.take_of_length_le (by rw [HLS.out]; exact Nat.le_refl _)
      rw [hR] at HX
      clear hR hbr
      generalize lastTag rs n = lv
      generalize decide (n = 0) = fv
      go_wp2_with fail
      go_loopw [8, 9] (fun near most W => ∃ e : Nat, near = .int .i64 ((16 * 2 ^ e : Nat) : Int) ∧ most = .int .i64 (e : Nat) ∧ 2 ^ e ≤ n ∧ W = wr) (fun near _ _ => 16 * n - (intOf near).toNat)
      case atStart => exact ⟨0, by first | rfl | go_num, by first | rfl | go_num, by simp; omega, by first | rfl | trivial⟩
      case round =>
        obtain ⟨e, rfl, rfl, hen, rfl⟩ := hrel
        have he : e < 64 := by
          rcases Nat.lt_or_ge e 64 with g | g
          · exact g
          · have : 2 ^ 64 ≤ 2 ^ e := Nat.pow_le_pow_right (by omega) g
            omega
        have HEX := Lib.hid (fun h => expo_is hn0 hen h (by omega) : n < 2 ^ (e + 1) → _)
        have HPW := Lib.hid (show 2 ^ (e + 1) = 2 * 2 ^ e by rw [Nat.pow_succ]; omega)
        have hM0 : 0 < 2 ^ e := Nat.pow_pos (by omega)
        generalize hM : 2 ^ e = M at *
        by_cases hle : 2 * M ≤ n
        · clear hM
          have hd : decide (2 * ((16 * M : Nat) : Int) ≤ 16 * (n : Int)) = true := by simp; omega
          go_wp2
          go_roundw
          case rel => exact ⟨e + 1, by rw [HPW.out]; go_num, by go_num, by rw [HPW.out]; omega, by first | rfl | trivial⟩
          case measure => simp [intOf]; omega
        · obtain ⟨hex, hpw⟩ := HEX.out (by rw [HPW.out]; omega)
          have hd : decide (2 * ((16 * M : Nat) : Int) ≤ 16 * (n : Int)) = false := by simp; omega
          have HEQ := Lib.hid hex
          have HPQ := Lib.hid hpw
          obtain ⟨he11, _, hpl⟩ := expo_le n (by omega)
          rw [hex] at he11
          rw [hpw] at hpl
          clear hM hex hpw HEX HPW
          generalize hNR : 16 * M = NR at *
          clear hNR
          rename World => W0
          go_wp2_with (first
            | (go_at_call 18; (with_reducible refine (put_z W0.heap.size _ 0 _ 65536 4 _ _ ?_ ?_ [] _ ?_ ?_ ?_ ?_ ?_).mono ?_); (· first | rfl | omega | simp); (· first | rfl | omega | simp); (· exact World.ownsRow_lit W0 #[] 0 (Nat.le_refl _) (by decide) rfl); (· first | exact Nat.le_refl _ | (simp; done) | omega | (simp; omega)); (· first | decide | omega); (· first | decide | omega); (· decide); rintro e_ v1 ⟨b1, d1, rfl, hown1, q1, r1, s1, hc1, hd1⟩; have O1 := Lib.hid hown1; have S1 := Lib.hid s1; have z1 := hd1.1; (try simp only [World.size_alloc] at z1); have C1 := Lib.hid hc1; clear hown1 s1 hc1 hd1)
            | (go_at_call 18; (with_reducible refine (put_z W0.heap.size b1 _ d1 n 2 _ _ ?_ ?_ ([] ++ beN 4 65536) _ ?_ ?_ ?_ ?_ ?_).mono ?_); (· first | rfl | omega | simp); (· first | rfl | omega | simp); (· exact O1.out); (· first | exact Nat.le_refl _ | (simp; done) | omega | (simp; omega)); (· first | decide | omega); (· first | decide | omega); (· decide); rintro e_ v2 ⟨b2, d2, rfl, hown2, q2, r2, s2, hc2, hd2⟩; have O2 := Lib.hid hown2; have S2 := Lib.hid s2; have z2 := hd2.1; (try simp only [World.size_alloc] at z2); have C2 := Lib.hid hc2; clear hown2 s2 hc2 hd2)
            | (go_at_call 18; (with_reducible refine (put_z W0.heap.size b2 _ d2 NR 2 _ _ ?_ ?_ ([] ++ beN 4 65536 ++ beN 2 n) _ ?_ ?_ ?_ ?_ ?_).mono ?_); (· first | rfl | omega | simp); (· first | rfl | omega | simp); (· exact O2.out); (· first | exact Nat.le_refl _ | (simp; done) | omega | (simp; omega)); (· first | decide | omega); (· first | decide | omega); (· decide); rintro e_ v3 ⟨b3, d3, rfl, hown3, q3, r3, s3, hc3, hd3⟩; have O3 := Lib.hid hown3; have S3 := Lib.hid s3; have z3 := hd3.1; (try simp only [World.size_alloc] at z3); have C3 := Lib.hid hc3; clear hown3 s3 hc3 hd3)
            | (go_at_call 18; (with_reducible refine (put_z W0.heap.size b3 _ d3 e 2 _ _ ?_ ?_ ([] ++ beN 4 65536 ++ beN 2 n ++ beN 2 NR) _ ?_ ?_ ?_ ?_ ?_).mono ?_); (· first | rfl | omega | simp); (· first | rfl | omega | simp); (· exact O3.out); (· first | exact Nat.le_refl _ | (simp; done) | omega | (simp; omega)); (· first | decide | omega); (· first | decide | omega); (· decide); rintro e_ v4 ⟨b4, d4, rfl, hown4, q4, r4, s4, hc4, hd4⟩; have O4 := Lib.hid hown4; have S4 := Lib.hid s4; have z4 := hd4.1; (try simp only [World.size_alloc] at z4); have C4 := Lib.hid hc4; clear hown4 s4 hc4 hd4)
            | (go_at_call 18; (with_reducible refine (put_z W0.heap.size b4 _ d4 (16 * n - NR) 2 _ _ ?_ ?_ ([] ++ beN 4 65536 ++ beN 2 n ++ beN 2 NR ++ beN 2 e) _ ?_ ?_ ?_ ?_ ?_).mono ?_); (· first | rfl | omega | simp); (· first | rfl | omega | simp); (· exact O4.out); (· first | exact Nat.le_refl _ | (simp; done) | omega | (simp; omega)); (· first | decide | omega); (· first | decide | omega); (· decide); rintro e_ v5 ⟨b5, d5, rfl, hown5, q5, r5, s5, hc5, hd5⟩; have O5 := Lib.hid hown5; have S5 := Lib.hid s5; have z5 := hd5.1; (try simp only [World.size_alloc] at z5); have C5 := Lib.hid hc5; clear hown5 s5 hc5 hd5))
          have hhdr : [] ++ beN 4 65536 ++ beN 2 n ++ beN 2 NR ++ beN 2 e ++ beN 2 (16 * n - NR) = hdr n := by
            rw [hdr, HEQ.out, HPQ.out]
            simp [beN2, beN4]
          have HO5 := Lib.hid O5.out
          rw [hhdr] at HO5
          have HB5 := Lib.hid ((((((balloc (brefl W0) _).trans C1.out).trans C2.out).trans C3.out).trans C4.out).trans C5.out)
          have HRr := Lib.hid (owns_has2 HX.out)
          have HWr := Lib.hid (show Below w.heap.size w W0 from HBR.out)
          clear O1 O2 O3 O4 O5 S1 S2 S3 S4 C1 C2 C3 C4 C5 hhdr z1 z2 z3 z4 z5
          go_loopw [10, 11, 12] (MakeRel1 W0 rs n) (fun _ _ i _ => n - (intOf i).toNat)
          case atStart => exact ⟨0, b5, d5, Nat.zero_le _, by first | rfl | go_num, by simp [tot], rfl, by simpa [rowsOf] using HO5.out, q5, r5, S5.out, HB5.out⟩
          case round =>
            obtain ⟨k, a7, c7, hk, rfl, rfl, rfl, hox7, k71, k72, k73, hbr7⟩ := hrel
            have HX7 := Lib.hid hox7
            have HA7 := Lib.hid k73
            have hzr7 := hbr7.size
            have HBR7 := Lib.hid hbr7
            clear hox7 k73
            by_cases hlt : k < n
            · obtain ⟨p, hp⟩ : ∃ p, rs[k]? = some p := ⟨_, List.getElem?_eq_getElem (by rw [HLS.out]; exact hlt)⟩
              obtain ⟨g, o, rfl, hg, x0, x1⟩ := part_at HRr.out hp
              have y0 := (hbr7.cell (p := ⟨g, o + k * 2, none⟩) hg).trans x0
              have y1 := (hbr7.cell (p := ⟨g, o + k * 2 + 1, none⟩) hg).trans x1
              have hT4 : p.tag.size = 4 := HT4.out p (List.mem_of_getElem? hp)
              clear hbr7 x0 x1
              obtain ⟨CC, WC, hcv, hbC, hhC, hzC, hC4, hCm⟩ := conv_any wr p.tag (by rw [hT4]; decide)
              rw [hT4] at hcv hC4
              have HHC := Lib.hid hhC
              have HPK := Lib.hid (HK.out p (HP.out.mem_iff.1 (List.mem_of_getElem? hp)))
              have HTK := Lib.hid (take_snoc hp)
              have HTT := Lib.hid (show tot (rs.take (k + 1)) = tot (rs.take k) + (p.n + lackN p.n) by rw [HTK.out, tot_append])
              have HRR := Lib.hid (show rowsOf (12 + 16 * n) (rs.take (k + 1)) = rowsOf (12 + 16 * n) (rs.take k) ++ rowOf p (12 + 16 * n + tot (rs.take k)) by rw [HTK.out, rowsOf_append])
              have hT : tot (rs.take k) ≤ 100003000 := by
                have h1 := tot_le w (rs.take k) (fun q hq => HK.out q (HP.out.mem_iff.1 (List.mem_of_mem_take hq)))
                have h2 : (rs.take k).length ≤ 1000 := by rw [List.length_take]; omega
                omega
              have HBC := Lib.hid hbC
              have hsm := HPK.out.small
              clear HTK hhC
              generalize tot (rs.take k) = T at *
              generalize rowsOf (12 + 16 * n) (rs.take k) = R at *
              go_wp2_with (at_builtin; refine wpApp rfl _ _ 22 rfl W0.heap.size 5 (.int .u8 0) 1 1 Try.underlying22 u8_info rfl (by decide) _ (12 + 16 * k) (bytesV (hdr n ++ R)) rfl (owns_below HX7.out HBC.out (Nat.le_refl _)) (some ⟨wr.heap.size, 0, none⟩) 4 CC (bytesV p.tag.data.toList) rfl (by rw [bytesV_length]; exact hT4) HHC.out (fun h => by cases h) (bytesV_one _) (by unfold maxLen; omega) (by omega) (by omega) ?_; intro a8 c8 w8 hown8 k81 k82 k83 hb8 hg8; have HO8 := Lib.hid hown8; have HA8 := Lib.hid k83; have HB8 := Lib.hid hb8; have y18 := (hb8.cell (p := ⟨g, o + k * 2 + 1, none⟩) hg); rw [hbC.cell (p := ⟨g, o + k * 2 + 1, none⟩) (by exact Nat.lt_of_lt_of_le hg hzr7), y1] at y18; clear hown8 k83 hb8 hg8)
              rw [← bytesV_append] at HO8
              have hck := cks_lt p.bs p.n
              have hW8 : Below W0.heap.size W0 w8 := (HBR7.out.trans (HBC.out.mono hzr7)).trans HB8.out
              have HW8 := Lib.hid hW8
              have h08 : W0.heap.size ≤ w8.heap.size := hW8.size
              have HPS := Lib.hid (HPK.out.has.below ((HWr.out).trans (hW8.drew.mono HWr.out.size)))
              clear hW8 hcv hbC
              refine wp_region_tree (.step 0 (.step 1 (.step 2 (.step 3 (.step 4 (.step 5 (.step 8 (.step 10 (.step 11 (.step 12 (.step 13 (.step 14 (.step 15 (.step 6 (.step 7 (.step 9 (.step 16 (.step 17 .nil)))))))))))))))))) (by kernel_rfl) (by kernel_rfl) (by kernel_rfl) (by kernel_rfl) (by intro _ _ d_ _ _ h_; cases d_ <;> first | exact h_ | (dsimp +zetaDelta only at h_ ⊢; exact h_)) (fun w' => ∃ p : BelW W0.heap.size w8, w' = p.val) (bel_start _ _) ?_
              have hG_ := @belC W0.heap.size w8
              (refine tree_quiet (by simp only [List.getElem?_toArray, List.getElem?_cons_succ, List.getElem?_cons_zero]; rfl) (by rfl) (by rfl) (fun K_ hK_ => ?_); go_big_quiet_op; refine hK_ _ ?_; clear hK_ K_)
              (refine tree_quiet (by simp only [List.getElem?_toArray, List.getElem?_cons_succ, List.getElem?_cons_zero]; rfl) (by rfl) (by rfl) (fun K_ hK_ => ?_); go_big_quiet_op; refine hK_ _ ?_; clear hK_ K_)
              (refine tree_quiet (by simp only [List.getElem?_toArray, List.getElem?_cons_succ, List.getElem?_cons_zero]; rfl) (by rfl) (by rfl) (fun K_ hK_ => ?_); go_big_quiet_op; refine hK_ _ ?_; clear hK_ K_)
              (refine tree_quiet (by simp only [List.getElem?_toArray, List.getElem?_cons_succ, List.getElem?_cons_zero]; rfl) (by rfl) (by rfl) (fun K_ hK_ => ?_); go_big_quiet_op; refine hK_ _ ?_; clear hK_ K_)
              (refine tree_quiet (by simp only [List.getElem?_toArray, List.getElem?_cons_succ, List.getElem?_cons_zero]; rfl) (by rfl) (by rfl) (fun K_ hK_ => ?_); go_big_quiet_op; refine hK_ _ ?_; clear hK_ K_)
              (refine tree_quiet (by simp only [List.getElem?_toArray, List.getElem?_cons_succ, List.getElem?_cons_zero]; rfl) (by rfl) (by rfl) (fun K_ hK_ => ?_); go_big_quiet_op; refine hK_ _ ?_; clear hK_ K_)
              (refine tree_quiet (by simp only [List.getElem?_toArray, List.getElem?_cons_succ, List.getElem?_cons_zero]; rfl) (by rfl) (by rfl) (fun K_ hK_ => ?_); go_big_quiet_op; refine hK_ _ ?_; clear hK_ K_)
              (refine tree_quiet (by simp only [List.getElem?_toArray, List.getElem?_cons_succ, List.getElem?_cons_zero]; rfl) (by rfl) (by rfl) (fun K_ hK_ => ?_); go_big_quiet_op; refine hK_ _ ?_; clear hK_ K_)
              (refine tree_quiet (by simp only [List.getElem?_toArray, List.getElem?_cons_succ, List.getElem?_cons_zero]; rfl) (by rfl) (by rfl) (fun K_ hK_ => ?_); go_big_quiet_op; refine hK_ _ ?_; clear hK_ K_)
              (refine tree_quiet (by simp only [List.getElem?_toArray, List.getElem?_cons_succ, List.getElem?_cons_zero]; rfl) (by rfl) (by rfl) (fun K_ hK_ => ?_); go_big_quiet_op; refine hK_ _ ?_; clear hK_ K_)
              (refine tree_quiet (by simp only [List.getElem?_toArray, List.getElem?_cons_succ, List.getElem?_cons_zero]; rfl) (by rfl) (by rfl) (fun K_ hK_ => ?_); go_big_quiet_op; refine hK_ _ ?_; clear hK_ K_)
              (refine tree_quiet (by simp only [List.getElem?_toArray, List.getElem?_cons_succ, List.getElem?_cons_zero]; rfl) (by rfl) (by rfl) (fun K_ hK_ => ?_); go_big_quiet_op; refine hK_ _ ?_; clear hK_ K_)
              (refine tree_quiet (by simp only [List.getElem?_toArray, List.getElem?_cons_succ, List.getElem?_cons_zero]; rfl) (by rfl) (by rfl) (fun K_ hK_ => ?_); go_big_quiet_op; refine hK_ _ ?_; clear hK_ K_)
              (refine tree_run (by simp only [List.getElem?_toArray, List.getElem?_cons_succ, List.getElem?_cons_zero]; rfl) (by rfl) (by rfl) (fun K_ hK_ => ?_); have HK_ := Lib.hid hK_; clear hK_; go_wp2_with (first
                | (go_at_call 25; refine (sum_any _ _ _ p.bs _ HPS.out HPK.out.len HPK.out.le HPK.out.max (by omega)).mono ?_; rintro e w_ ⟨rfl, rfl⟩)
                | (go_at_call 18; (with_reducible refine (put_z W0.heap.size a8 _ c8 (cks p.bs p.n) 4 _ _ ?_ ?_ (hdr n ++ R ++ p.tag.data.toList) _ ?_ ?_ ?_ ?_ ?_).mono ?_); (· first | rfl | omega | simp); (· rfl); (· exact owns_below HO8.out ((Below.refl _ w8).drew) (Nat.le_refl _)); (· first | omega | (simp; omega)); (· omega); (· omega); (· decide); rintro e_ v1 ⟨b1, d1, rfl, hown1, q1, r1, s1, hc1, hd1⟩; have O1 := Lib.hid hown1; have S1 := Lib.hid s1; have z1 := hd1.1; (try simp only [World.size_alloc, World.size_drew] at z1); clear hown1 s1 hd1)
                | (go_at_call 18; (with_reducible refine (put_z W0.heap.size b1 _ d1 (12 + 16 * n + T) 4 _ _ ?_ ?_ ((hdr n ++ R ++ p.tag.data.toList) ++ beN 4 (cks p.bs p.n)) _ ?_ ?_ ?_ ?_ ?_).mono ?_); (· first | rfl | omega | simp); (· rfl); (· exact O1.out); (· first | omega | (simp; omega)); (· omega); (· omega); (· decide); rintro e_ v2 ⟨b2, d2, rfl, hown2, q2, r2, s2, hc2, hd2⟩; have O2 := Lib.hid hown2; have S2 := Lib.hid s2; have z2 := hd2.1; (try simp only [World.size_alloc, World.size_drew] at z2); clear hown2 s2 hd2)
                | (go_at_call 18; (with_reducible refine (put_z W0.heap.size b2 _ d2 p.n 4 _ _ ?_ ?_ ((hdr n ++ R ++ p.tag.data.toList) ++ beN 4 (cks p.bs p.n) ++ beN 4 (12 + 16 * n + T)) _ ?_ ?_ ?_ ?_ ?_).mono ?_); (· first | rfl | omega | simp); (· rfl); (· exact O2.out); (· first | omega | (simp; omega)); (· omega); (· omega); (· decide); rintro e_ v3 ⟨b3, d3, rfl, hown3, q3, r3, s3, hc3, hd3⟩; have O3 := Lib.hid hown3; have S3 := Lib.hid s3; have z3 := hd3.1; (try simp only [World.size_alloc, World.size_drew] at z3); clear hown3 s3 hd3)); refine HK_.out _ _ (bel_of (by repeat (first | exact Below.refl _ _ | assumption | refine bdrew1q ?_ | refine balloc ?_ _ | refine bthen ?_ (by assumption) | refine Below.trans ?_ (by assumption)))) ?_; clear HK_)
              (refine tree_run (by simp only [List.getElem?_toArray, List.getElem?_cons_succ, List.getElem?_cons_zero]; rfl) (by rfl) (by rfl) (fun K_ hK_ => ?_); have HK_ := Lib.hid hK_; clear hK_; go_wp2_with (first
                | (go_at_call 25; refine (sum_any _ _ _ p.bs _ HPS.out HPK.out.len HPK.out.le HPK.out.max (by omega)).mono ?_; rintro e w_ ⟨rfl, rfl⟩)
                | (go_at_call 18; (with_reducible refine (put_z W0.heap.size a8 _ c8 (cks p.bs p.n) 4 _ _ ?_ ?_ (hdr n ++ R ++ p.tag.data.toList) _ ?_ ?_ ?_ ?_ ?_).mono ?_); (· first | rfl | omega | simp); (· rfl); (· exact owns_below HO8.out ((Below.refl _ w8).drew) (Nat.le_refl _)); (· first | omega | (simp; omega)); (· omega); (· omega); (· decide); rintro e_ v1 ⟨b1, d1, rfl, hown1, q1, r1, s1, hc1, hd1⟩; have O1 := Lib.hid hown1; have S1 := Lib.hid s1; have z1 := hd1.1; (try simp only [World.size_alloc, World.size_drew] at z1); clear hown1 s1 hd1)
                | (go_at_call 18; (with_reducible refine (put_z W0.heap.size b1 _ d1 (12 + 16 * n + T) 4 _ _ ?_ ?_ ((hdr n ++ R ++ p.tag.data.toList) ++ beN 4 (cks p.bs p.n)) _ ?_ ?_ ?_ ?_ ?_).mono ?_); (· first | rfl | omega | simp); (· rfl); (· exact O1.out); (· first | omega | (simp; omega)); (· omega); (· omega); (· decide); rintro e_ v2 ⟨b2, d2, rfl, hown2, q2, r2, s2, hc2, hd2⟩; have O2 := Lib.hid hown2; have S2 := Lib.hid s2; have z2 := hd2.1; (try simp only [World.size_alloc, World.size_drew] at z2); clear hown2 s2 hd2)
                | (go_at_call 18; (with_reducible refine (put_z W0.heap.size b2 _ d2 p.n 4 _ _ ?_ ?_ ((hdr n ++ R ++ p.tag.data.toList) ++ beN 4 (cks p.bs p.n) ++ beN 4 (12 + 16 * n + T)) _ ?_ ?_ ?_ ?_ ?_).mono ?_); (· first | rfl | omega | simp); (· rfl); (· exact O2.out); (· first | omega | (simp; omega)); (· omega); (· omega); (· decide); rintro e_ v3 ⟨b3, d3, rfl, hown3, q3, r3, s3, hc3, hd3⟩; have O3 := Lib.hid hown3; have S3 := Lib.hid s3; have z3 := hd3.1; (try simp only [World.size_alloc, World.size_drew] at z3); clear hown3 s3 hd3)); refine HK_.out _ _ (bel_of (by repeat (first | exact Below.refl _ _ | assumption | refine bdrew1q ?_ | refine balloc ?_ _ | refine bthen ?_ (by assumption) | refine Below.trans ?_ (by assumption)))) ?_; clear HK_)
              (refine tree_run (by simp only [List.getElem?_toArray, List.getElem?_cons_succ, List.getElem?_cons_zero]; rfl) (by rfl) (by rfl) (fun K_ hK_ => ?_); have HK_ := Lib.hid hK_; clear hK_; go_wp2_with (first
                | (go_at_call 25; refine (sum_any _ _ _ p.bs _ HPS.out HPK.out.len HPK.out.le HPK.out.max (by omega)).mono ?_; rintro e w_ ⟨rfl, rfl⟩)
                | (go_at_call 18; (with_reducible refine (put_z W0.heap.size a8 _ c8 (cks p.bs p.n) 4 _ _ ?_ ?_ (hdr n ++ R ++ p.tag.data.toList) _ ?_ ?_ ?_ ?_ ?_).mono ?_); (· first | rfl | omega | simp); (· rfl); (· exact owns_below HO8.out ((Below.refl _ w8).drew) (Nat.le_refl _)); (· first | omega | (simp; omega)); (· omega); (· omega); (· decide); rintro e_ v1 ⟨b1, d1, rfl, hown1, q1, r1, s1, hc1, hd1⟩; have O1 := Lib.hid hown1; have S1 := Lib.hid s1; have z1 := hd1.1; (try simp only [World.size_alloc, World.size_drew] at z1); clear hown1 s1 hd1)
                | (go_at_call 18; (with_reducible refine (put_z W0.heap.size b1 _ d1 (12 + 16 * n + T) 4 _ _ ?_ ?_ ((hdr n ++ R ++ p.tag.data.toList) ++ beN 4 (cks p.bs p.n)) _ ?_ ?_ ?_ ?_ ?_).mono ?_); (· first | rfl | omega | simp); (· rfl); (· exact O1.out); (· first | omega | (simp; omega)); (· omega); (· omega); (· decide); rintro e_ v2 ⟨b2, d2, rfl, hown2, q2, r2, s2, hc2, hd2⟩; have O2 := Lib.hid hown2; have S2 := Lib.hid s2; have z2 := hd2.1; (try simp only [World.size_alloc, World.size_drew] at z2); clear hown2 s2 hd2)
                | (go_at_call 18; (with_reducible refine (put_z W0.heap.size b2 _ d2 p.n 4 _ _ ?_ ?_ ((hdr n ++ R ++ p.tag.data.toList) ++ beN 4 (cks p.bs p.n) ++ beN 4 (12 + 16 * n + T)) _ ?_ ?_ ?_ ?_ ?_).mono ?_); (· first | rfl | omega | simp); (· rfl); (· exact O2.out); (· first | omega | (simp; omega)); (· omega); (· omega); (· decide); rintro e_ v3 ⟨b3, d3, rfl, hown3, q3, r3, s3, hc3, hd3⟩; have O3 := Lib.hid hown3; have S3 := Lib.hid s3; have z3 := hd3.1; (try simp only [World.size_alloc, World.size_drew] at z3); clear hown3 s3 hd3)); refine HK_.out _ _ (bel_of (by repeat (first | exact Below.refl _ _ | assumption | refine bdrew1q ?_ | refine balloc ?_ _ | refine bthen ?_ (by assumption) | refine Below.trans ?_ (by assumption)))) ?_; clear HK_)
              (refine tree_run (by simp only [List.getElem?_toArray, List.getElem?_cons_succ, List.getElem?_cons_zero]; rfl) (by rfl) (by rfl) (fun K_ hK_ => ?_); have HK_ := Lib.hid hK_; clear hK_; go_wp2_with (first
                | (go_at_call 25; refine (sum_any _ _ _ p.bs _ HPS.out HPK.out.len HPK.out.le HPK.out.max (by omega)).mono ?_; rintro e w_ ⟨rfl, rfl⟩)
                | (go_at_call 18; (with_reducible refine (put_z W0.heap.size a8 _ c8 (cks p.bs p.n) 4 _ _ ?_ ?_ (hdr n ++ R ++ p.tag.data.toList) _ ?_ ?_ ?_ ?_ ?_).mono ?_); (· first | rfl | omega | simp); (· rfl); (· exact owns_below HO8.out ((Below.refl _ w8).drew) (Nat.le_refl _)); (· first | omega | (simp; omega)); (· omega); (· omega); (· decide); rintro e_ v1 ⟨b1, d1, rfl, hown1, q1, r1, s1, hc1, hd1⟩; have O1 := Lib.hid hown1; have S1 := Lib.hid s1; have z1 := hd1.1; (try simp only [World.size_alloc, World.size_drew] at z1); clear hown1 s1 hd1)
                | (go_at_call 18; (with_reducible refine (put_z W0.heap.size b1 _ d1 (12 + 16 * n + T) 4 _ _ ?_ ?_ ((hdr n ++ R ++ p.tag.data.toList) ++ beN 4 (cks p.bs p.n)) _ ?_ ?_ ?_ ?_ ?_).mono ?_); (· first | rfl | omega | simp); (· rfl); (· exact O1.out); (· first | omega | (simp; omega)); (· omega); (· omega); (· decide); rintro e_ v2 ⟨b2, d2, rfl, hown2, q2, r2, s2, hc2, hd2⟩; have O2 := Lib.hid hown2; have S2 := Lib.hid s2; have z2 := hd2.1; (try simp only [World.size_alloc, World.size_drew] at z2); clear hown2 s2 hd2)
                | (go_at_call 18; (with_reducible refine (put_z W0.heap.size b2 _ d2 p.n 4 _ _ ?_ ?_ ((hdr n ++ R ++ p.tag.data.toList) ++ beN 4 (cks p.bs p.n) ++ beN 4 (12 + 16 * n + T)) _ ?_ ?_ ?_ ?_ ?_).mono ?_); (· first | rfl | omega | simp); (· rfl); (· exact O2.out); (· first | omega | (simp; omega)); (· omega); (· omega); (· decide); rintro e_ v3 ⟨b3, d3, rfl, hown3, q3, r3, s3, hc3, hd3⟩; have O3 := Lib.hid hown3; have S3 := Lib.hid s3; have z3 := hd3.1; (try simp only [World.size_alloc, World.size_drew] at z3); clear hown3 s3 hd3)); refine HK_.out _ _ (bel_of (by repeat (first | exact Below.refl _ _ | assumption | refine bdrew1q ?_ | refine balloc ?_ _ | refine bthen ?_ (by assumption) | refine Below.trans ?_ (by assumption)))) ?_; clear HK_)
              (refine tree_quiet (by simp only [List.getElem?_toArray, List.getElem?_cons_succ, List.getElem?_cons_zero]; rfl) (by rfl) (by rfl) (fun K_ hK_ => ?_); go_big_quiet_op; refine hK_ _ ?_; clear hK_ K_)
              refine tree_nil ?_
              clear hG_
              have hV3 : Below W0.heap.size w8 v3 := (((Below.refl _ w8).drew).trans hc1).trans (hc2.trans hc3)
              have y28 := (hV3.cell (p := ⟨g, o + k * 2 + 1, none⟩) hg).trans y18
              have HV3 := Lib.hid (HW8.out.trans hV3)
              clear hc1 hc2 hc3 hV3 y18
              have hql : (p.n + 3) / 4 * 4 = p.n + lackN p.n := by unfold lackN; omega
              go_wp2_with fail
              go_roundw
              case rel =>
                refine ⟨k + 1, b3, d3, by omega, by go_num, ?_, by congr 1 <;> omega, ?_, by omega, r3, S3.out, HV3.out⟩
                · rw [HTT.out]; congr 1 <;> omega
                · have h7 := O3.out
                  rw [beN4, beN4, beN4] at h7
                  rw [HRR.out, rowOf, show 12 + 16 * (k + 1) = 12 + 16 * k + 4 + 4 + 4 + 4 by omega]
                  simp only [List.append_assoc, List.flatMap_cons, List.flatMap_nil, List.append_nil] at h7 ⊢
                  exact h7
              case measure => simp [intOf]; omega
            · obtain rfl : n = k := by omega
              have hR : rs.take n = rs := List.take_of_length_le (by rw [HLS.out]; exact Nat.le_refl _)
              rw [hR] at HX7 ⊢
              clear hR hbr7
              obtain ⟨AT, hAT⟩ : ∃ z : Int, z = ((12 + 16 * n + tot rs : Nat) : Int) := ⟨_, rfl⟩
              rw [← hAT]
              clear hAT
              go_wp2_with fail
              go_loopw [10, 13] (MakeRel2 W0 rs n) (fun _ i _ => n - (intOf i).toNat)
              case atStart => exact ⟨0, a7, c7, Nat.zero_le _, rfl, by simp [tot], by simpa [tot] using HX7.out, by simpa [tot] using k71, k72, HA7.out, HBR7.out⟩
              case round =>
                obtain ⟨k, a8, c8, hk, rfl, rfl, hox, k81, k82, k83, hbr⟩ := hrel
                have HX2 := Lib.hid hox
                have HA8 := Lib.hid k83
                have hzr := hbr.size
                have HBR2 := Lib.hid hbr
                clear hox k83 HX7 HBR7 HA7 k71 k72
                by_cases hlt : k < n
                · obtain ⟨p, hp⟩ : ∃ p, rs[k]? = some p := ⟨_, List.getElem?_eq_getElem (by rw [HLS.out]; exact hlt)⟩
                  obtain ⟨g, o, rfl, hg', x0, x1⟩ := part_at HRr.out hp
                  have y0 := (hbr.cell (p := ⟨g, o + k * 2, none⟩) hg').trans x0
                  have y1 := (hbr.cell (p := ⟨g, o + k * 2 + 1, none⟩) hg').trans x1
                  have HPK := Lib.hid (HK.out p (HP.out.mem_iff.1 (List.mem_of_getElem? hp)))
                  have hsm := HPK.out.small
                  have HTT := Lib.hid (show tot (rs.take (k + 1)) = tot (rs.take k) + (p.n + lackN p.n) by rw [take_snoc hp, tot_append])
                  have HDD := Lib.hid (show (rs.take (k + 1)).flatMap dataOf = (rs.take k).flatMap dataOf ++ dataOf p by rw [take_snoc hp, List.flatMap_append]; simp)
                  have hT : tot (rs.take k) ≤ 100003000 := by
                    have h1 := tot_le w (rs.take k) (fun q hq => HK.out q (HP.out.mem_iff.1 (List.mem_of_mem_take hq)))
                    have h2 : (rs.take k).length ≤ 1000 := by rw [List.length_take]; omega
                    omega
                  have hTm := tot_mod (rs.take k)
                  have hL3 : lackN p.n ≤ 3 := by unfold lackN; omega
                  have hLm : (p.n + lackN p.n) % 4 = 0 := by unfold lackN; omega
                  have HWR := Lib.hid (HWr.out.trans (hbr.mono HWr.out.size))
                  clear hbr x0 x1
                  generalize tot (rs.take k) = T at *
                  generalize (rs.take k).flatMap dataOf = D at *
                  go_wp2_with (at_builtin; refine wpApp rfl _ _ 22 rfl W0.heap.size 5 (.int .u8 0) 1 1 Try.underlying22 u8_info rfl (by decide) _ (12 + 16 * n + T) (bytesV (hdr n ++ rowsOf (12 + 16 * n) rs ++ D)) rfl HX2.out p.a p.n p.c (bytesV p.bs) rfl (by rw [bytesV_length, HPK.out.len]; omega) (HPK.out.has.below HWR.out) HPK.out.nil (bytesV_one _) (by unfold maxLen; omega) (by omega) hzr ?_; intro a9 c9 w9 hown9 k91 k92 k93 hb9 hg9; have HO9 := Lib.hid hown9; have HA9 := Lib.hid k93; have HB9 := Lib.hid hb9; have hz9 := hg9.size; clear hown9 k93 hb9 hg9)
                  rw [← bytesV_append] at HO9
                  generalize hLL : 12 + 16 * n + T + p.n = L at *
                  generalize hlk : lackN p.n = lk at *
                  go_loopw [10] (fun b W => ∃ (m : Nat) (a : Option Addr) (c : Nat), m ≤ lk ∧ b = .slice a (L + m) c ∧ W.ownsRow W0.heap.size 5 1 b (L + m) (bytesV (hdr n ++ rowsOf (12 + 16 * n) rs ++ D ++ p.bs ++ List.replicate m 0)) ∧ L + m ≤ c ∧ c ≤ maxLen ∧ (a = none → c = 0) ∧ Below W0.heap.size w9 W ∧ w9.heap.size ≤ W.heap.size) (fun b _ => L + 4 - (lenV b))
                  case atStart => exact ⟨0, a9, c9, Nat.zero_le _, rfl, by simpa using HO9.out, by simpa using k91, k92, HA9.out, Below.refl _ _, Nat.le_refl _⟩
                  case round =>
                    obtain ⟨m, ai, ci, hm, rfl, hoi, ki1, ki2, ki3, hbi, hzi⟩ := hrel
                    have HOI := Lib.hid hoi
                    have HAI := Lib.hid ki3
                    have HBI := Lib.hid hbi
                    clear hoi ki3 hbi
                    by_cases hml : m < lk
                    · have hpos : 0 < (L + m) % 4 := by omega
                      have hzw : W0.heap.size ≤ wr.heap.size := by omega
                      go_wp2_with (at_builtin; refine wpApp rfl _ _ 22 rfl W0.heap.size 5 (.int .u8 0) 1 1 Try.underlying22 u8_info rfl (by decide) _ (L + m) (bytesV (hdr n ++ rowsOf (12 + 16 * n) rs ++ D ++ p.bs ++ List.replicate m 0)) rfl (owns_below HOI.out (balloc (brefl wr) _) (Nat.le_refl _)) (some ⟨wr.heap.size, 0, none⟩) 1 1 (bytesV [0]) rfl rfl (has_alloc _ _ _) (fun h => by cases h) (bytesV_one _) (by unfold maxLen; omega) (by omega) (by simp; omega) ?_; intro ax cx wx hownx kx1 kx2 kx3 hbx hgx; have HOX := Lib.hid hownx; have HAX := Lib.hid kx3; have HBX := Lib.hid hbx; have hzx := hgx.size; clear hownx kx3 hbx hgx)
                      go_roundw
                      case rel => exact ⟨m + 1, ax, cx, by omega, rfl, by rw [List.replicate_succ', ← List.append_assoc, bytesV_append _ [0]]; exact HOX.out, kx1, kx2, HAX.out, HBI.out.trans (((balloc (brefl wr) _).mono hzw).trans HBX.out), by simp at hzx; omega⟩
                      case measure => simp [lenV]; omega
                    · obtain rfl : m = lk := by omega
                      have hpos : (L + m) % 4 = 0 := by omega
                      go_wp2_with fail
                      go_roundw
                      case rel =>
                        refine ⟨k + 1, ai, ci, by omega, by go_num, ?_, ?_, by rw [HTT.out]; omega, ki2, HAI.out, (HBR2.out.trans HB9.out).trans HBI.out⟩
                        · rw [HTT.out]; congr 1 <;> omega
                        · have h9 := HOI.out
                          rw [HTT.out, HDD.out, dataOf, hlk]
                          rw [show 12 + 16 * n + (T + (p.n + m)) = L + m by omega]
                          simp only [List.append_assoc] at h9 ⊢
                          exact h9
                      case measure => simp [intOf]; omega
                · obtain rfl : n = k := by omega
                  have hR : rs.take n = rs := List.take_of_length_le (by rw [HLS.out]; exact Nat.le_refl _)
                  rw [hR] at HX2 k81 ⊢
                  have hfl : (font rs).length = 12 + 16 * n + tot rs := by
                    have := HX2.out.1
                    rw [bytesV_length, Nat.mul_one] at this
                    rw [← this, font, HLS.out]
                  have HFL := Lib.hid hfl
                  clear hR hfl hbr
                  go_wp2
                  go_ret
                  refine ⟨rs, HP.out, HR.out, HF.out, a8, c8, ?_, ?_, by rw [HFL.out]; exact k81, k82, HA8.out, HWr.out.trans (HBR2.out.mono HWr.out.size)⟩
                  · rw [HFL.out]; rfl
                  · rw [HFL.out, font, HLS.out]; exact owns_mono HX2.out HWr.out.size
end Go.Proofs.Ythacabmnnpibkaa
