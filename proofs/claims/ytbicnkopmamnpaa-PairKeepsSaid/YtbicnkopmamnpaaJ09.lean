/- Joined from: LRefS. -/
import Derived.Test.YtbicnkopmamnpaaJ01
import Derived.Test.YtbicnkopmamnpaaJ08
section

/- The reference's parts of layer 6: segments. Conditions: no more than 4000 bytes. The reference's parts of layer 6: segments whose glyphs have numbers of their own. Conditions: no more than 4000 bytes. The reference's parts of layer 6: those of a row of numbers. Conditions: no more than 4000 bytes. The reference's parts of layer 6, whatever the form. Conditions: no more than 4000 bytes; a font's glyphs, numbers of two or four bytes. The reference's parts of layer 6 of the forms 6 and 10, all forms, and the reference's Read. Conditions: no more than 4000 bytes; a font's glyphs, numbers of two or four bytes. The reference's Read of layer 6. Conditions: no more than 4000 bytes; a font's glyphs, numbers of two or four bytes. -/
namespace Go.Proofs.Ytbicnkopmamnpaa
open Go.RowKit Go.Lib

def encR (r : RP) : List Value := [.int .i64 (r.first : Nat), .int .i64 (r.last : Nat), .int .i64 (r.at_ : Nat), .int .i64 (r.size : Nat), .int .i64 ((if r.own = true then r.size else 0 : Nat) : Int)]
def encRs (rs : List RP) : List Value := rs.flatMap encR
theorem encRs_snoc (rs : List RP) (r : RP) : encRs rs ++ encR r = encRs (rs ++ [r]) := by simp [encRs]
theorem encRs_length (rs : List RP) : (encRs rs).length = rs.length * 5 := by
  induction rs with
  | nil => rfl
  | cons r rs ih => simp only [encRs, List.flatMap_cons, List.length_append] at *; rw [ih]; simp [encR]; omega
theorem encRs_get : ∀ (rs : List RP) (i : Nat) (r : RP), rs[i]? = some r → ∀ j, j < 5 → (encRs rs)[i * 5 + j]? = (encR r)[j]?
  | [], i, r, h, _, _ => by simp at h
  | q :: rs, 0, r, h, j, hj => by
    simp at h
    subst h
    show (encR q ++ encRs rs)[0 * 5 + j]? = _
    rw [List.getElem?_append_left (by simp [encR]; omega)]
    simp
  | q :: rs, i + 1, r, h, j, hj => by
    show (encR q ++ encRs rs)[(i + 1) * 5 + j]? = _
    rw [List.getElem?_append_right (by simp [encR]; omega), ← encRs_get rs i r (by simpa using h) j hj]
    congr 1
    simp [encR]
    omega
theorem rp_info : (Try.prog.info? 222).map (fun i => (i.zero, i.size, i.bytes)) = some (some (.agg #[.int .i64 0, .int .i64 0, .int .i64 0, .int .i64 0, .int .i64 0]), 5, 40) := by kernel_rfl
theorem sref_z (a : Option Addr) (n c : Nat) (bs : List UInt8) (need keys : Nat) (y z : Int) (hy : y = (need : Nat)) (hz : z = (keys : Nat)) (w : World) (h : Has w a (bytesV bs)) (hl : bs.length = n) (hn : n ≤ c) (hc : c ≤ maxLen) (h20 : n ≤ 4000)
    (h2 : 2 ≤ need) (hn63 : need ≤ 9223372036854775807) (h1 : 1 ≤ keys) (hkn : 2 * keys ≤ need) :
    Calls Try.prog 162 #[.slice a n c, .int .i64 2, .int .i64 y, .int .i64 z] w fun e w' =>
      ((∃ (a' : Option Addr) (c' : Nat), skOk bs 2 need ∧ e = .returned (.tuple #[.slice a' (skM bs 2 keys) c', .int .i64 (skS bs 2 : Nat), .bool true]) ∧ Has w' a' (intsV (placesV 2 (skS bs 2) (skM bs 2 keys))) ∧ skM bs 2 keys ≤ c' ∧ c' ≤ maxLen) ∨
       (¬ skOk bs 2 need ∧ e = .returned (.tuple #[.slice none 0 0, .int .i64 0, .bool false]))) ∧ Below w.heap.size w w' := by
  subst hy; subst hz
  refine (sref_any a n c bs 2 need keys w h hl hn hc h20 (by omega) h2 hn63 h1 hkn).mono ?_
  rintro e w' ⟨(⟨j, a', c', hj, hok, he, hh, q1, q2⟩ | ⟨hno, he⟩), hb⟩
  · obtain rfl : j = 2 := by omega
    exact ⟨.inl ⟨a', c', hok, he, hh, q1, q2⟩, hb⟩
  · exact ⟨.inr ⟨hno 2 rfl, he⟩, hb⟩
/-- Parts that stand in a block that isn't old. -/
def HasN (B : Nat) (w : World) (a : Option Addr) (xs : List Value) : Prop := Has w a xs ∧ (xs ≠ [] → ∀ p, a = some p → B ≤ p.block ∧ ∃ cs fz, w.heap[p.block]? = some (.cells cs 222 fz))
theorem hasN_nil {B : Nat} {w : World} {a : Option Addr} : HasN B w a (encRs []) := ⟨fun j u hu => (by simp [encRs] at hu), fun hne => absurd rfl hne⟩
theorem hasN_of_owns {w : World} {B base size n m c : Nat} {a : Option Addr} {xs : List Value} (h : w.ownsRow base 222 size (.slice a m c) n xs) (hB : B ≤ base) : HasN B w a xs := by
  refine ⟨has_of_owns h, fun hne p hp => ?_⟩
  rcases h.2 with ⟨hv, rfl⟩ | ⟨g, cap, cur, hv, hg, hh, _⟩
  · exact absurd (List.eq_nil_of_length_eq_zero (by simpa using h.1)) hne
  · injection hv with h1 h2 h3
    rw [hp] at h1
    cases h1
    exact ⟨Nat.le_trans hB hg, _, _, hh⟩
theorem hasN_alloc (w : World) (cs : Array Value) : HasN w.heap.size (w.alloc (.cells cs 222)) (some ⟨w.heap.size, 0, none⟩) cs.toList := ⟨has_alloc w cs _, fun _ p hp => by cases hp; exact ⟨Nat.le_refl _, _, _, (heap_push _ _ _).trans (if_pos rfl)⟩⟩
def PartsRes (P : List RP → Bool → Prop) (w : World) (e : Ending) (w' : World) : Prop :=
  (∃ (rs : List RP) (okb : Bool) (a' : Option Addr) (c' : Nat), e = .returned (.tuple #[.slice a' rs.length c', .bool okb]) ∧ HasN w.heap.size w' a' (encRs rs) ∧ rs.length ≤ c' ∧ c' ≤ maxLen ∧ rs.length ≤ 65535 ∧ P rs okb) ∧ Below w.heap.size w w'
def SgRel (W : World) (rs : List RP) (ok out i : Value) (wr : World) : Prop :=
  ok = .bool true ∧ ∃ (k : Nat) (a' : Option Addr) (c' : Nat), k ≤ rs.length ∧ i = .int .i64 (k : Nat) ∧ out = .slice a' k c' ∧ wr.ownsRow W.heap.size 222 5 out k (encRs (rs.take k)) ∧ k ≤ c' ∧ c' ≤ maxLen ∧ Below W.heap.size W wr
set_option maxRecDepth 100000 in
set_option maxHeartbeats 3200000 in
theorem segs_false (a : Option Addr) (n c : Nat) (bs : List UInt8) (S : Nat) (zs : Int) (hzs : zs = (S : Nat)) (hS : S = 2 ∨ S = 4) (w : World) (h : Has w a (bytesV bs)) (hl : bs.length = n) (hn : n ≤ c) (hc : c ≤ maxLen) (h20 : n ≤ 4000) :
    Calls Try.prog 161 #[.slice a n c, .int .i64 zs, .bool false] w (PartsRes (fun rs okb => (okb = true → skOk bs 2 (4 + S) ∧ rs = rows2 bs S (skM bs 2 2)) ∧ (okb = false → ¬ skOk bs 2 (4 + S))) w) := by
  have hAC := allocC
  have hAF := allocF
  subst hzs
  have HR := Lib.hid (sref_z a n c bs (4 + S) 2 (4 + (S : Int)) 2 (by omega) rfl w h hl hn hc h20 (by omega) (by omega) (by decide) (by omega))
  have HH := Lib.hid h
  have HL := Lib.hid hl
  clear h hl
  go_enter Try.func161, Try.ntmps161
  go_wp2_with fail
  refine HR.out.mono ?_
  rintro e w2 ⟨(⟨a2, c2, hok, rfl, hrow, q1, q2⟩ | ⟨hno, rfl⟩), hb2⟩
  case inr =>
    have HB2 := Lib.hid hb2
    have HNO := Lib.hid hno
    clear hb2 hno HR
    go_wp2_with fail
    go_loopw [11, 12, 13] (fun ok out i wr => ok = .bool false ∧ (∃ x y, out = .slice x 0 y ∧ y ≤ maxLen) ∧ i = .int .i64 0 ∧ Below w2.heap.size w2 wr) (fun _ _ _ _ => 0)
    case atStart => exact ⟨rfl, ⟨_, _, rfl, Nat.zero_le _⟩, rfl, blw⟩
    case round =>
      obtain ⟨rfl, ⟨x, y, rfl, hy⟩, rfl, hbr⟩ := hrel
      have HBR := Lib.hid (HB2.out.trans (hbr.mono HB2.out.size))
      clear hbr
      go_wp2_with fail
      go_ret2
      exact ⟨⟨[], false, _, _, rfl, hasN_nil, Nat.zero_le _, hy, Nat.zero_le _, fun hx => (by cases hx), fun _ => HNO.out⟩, HBR.out⟩
  have HOK := Lib.hid hok
  have HB2 := Lib.hid hb2
  have HROW := Lib.hid hrow
  have hMN : skM bs 2 2 ≤ skN bs 2 := by unfold skM; split <;> omega
  have hM7 : skM bs 2 2 ≤ 65535 := Nat.le_trans hMN (num2_lt _ _)
  have hfit := hok.rows
  have hsz := hok.size
  rw [HL.out] at hfit
  have HRS := Lib.hid (show ∀ j, j < skM bs 2 2 → (rows2 bs S (skM bs 2 2))[j]? = some ⟨num bs (12 + j * skS bs 2 + 2) 2, num bs (12 + j * skS bs 2) 2, 12 + j * skS bs 2 + 4, S, false⟩ from fun j hj => by simp [rows2, List.getElem?_map, List.getElem?_range hj])
  have HLEN := Lib.hid (show (rows2 bs S (skM bs 2 2)).length = skM bs 2 2 from by simp [rows2])
  have HRE := Lib.hid (show rows2 bs S (skM bs 2 2) = rows2 bs S (skM bs 2 2) from rfl)
  clear hok hb2 hrow HR
  generalize hrs : rows2 bs S (skM bs 2 2) = rs at *
  have HRE := Lib.hid hrs
  clear hrs
  generalize hMM : skM bs 2 2 = M at *
  have HMM := Lib.hid hMM
  clear hMM
  generalize skS bs 2 = q at *
  generalize skN bs 2 = N at *
  have HFIT := Lib.hid (show ∀ j, j < M → 12 + j * q + q ≤ n from fun j hj => by
    have : j * q + q ≤ N * q := by rw [← Nat.succ_mul]; exact Nat.mul_le_mul_right _ (by omega)
    omega)
  clear hfit hMN
  go_wp2_with fail
  go_loopw [11, 12, 13] (SgRel w2 rs) (fun _ _ i _ => M - (Go.RowKit.intOf i).toNat)
  case atStart => exact ⟨rfl, 0, _, _, Nat.zero_le _, rfl, rfl, World.ownsRow_lit w2 #[] 0 (Nat.le_refl _) (by decide) rfl, Nat.le_refl _, Nat.zero_le _, blw⟩
  case round =>
    obtain ⟨rfl, k, a3, c3, hk, rfl, rfl, hown, o1, o2, hbr⟩ := hrel
    rw [HLEN.out] at hk
    have HOW := Lib.hid hown
    have HBR := Lib.hid hbr
    have HBX := Lib.hid (HB2.out.trans (hbr.mono HB2.out.size))
    clear hown hbr
    by_cases hlt : k < M
    · have hp := HFIT.out k hlt
      have HRK := Lib.hid (HRS.out k hlt)
      have HLT := Lib.hid hlt
      have hkp : (intsV (placesV 2 q M))[k]? = some (.int .i64 ((12 + k * q : Nat) : Int)) := by simp [intsV, placesV, List.getElem?_map, List.getElem?_range hlt]
      obtain ⟨ar, har, hcr⟩ := (HROW.out.below HBR.out) k _ hkp
      have hcw : ∀ pp : Wld wr [], pp.val.cell? (ar.add k) = some (.int .i64 ((12 + k * q : Nat) : Int)) := fun pp => by
        obtain ⟨x, hx, hc⟩ := has_wld (HROW.out.below HBR.out) pp k _ hkp
        rw [har] at hx
        cases hx
        exact hc
      clear hkp
      have HU2 := Lib.hid (fun W hw => u2_z a n c (12 + k * q + 2) (((12 + k * q : Nat) : Int) + 2) (by omega) bs W hw HL.out (by omega) (Nat.le_trans hn hc))
      have HU0 := Lib.hid (fun W hw => u2_z a n c (12 + k * q) (((12 + k * q : Nat) : Int)) rfl bs W hw HL.out (by omega) (Nat.le_trans hn hc))
      have HHR := Lib.hid (HH.out.below HBX.out)
      generalize hf1 : num bs (12 + k * q + 2) 2 = f1 at *
      generalize hf2 : num bs (12 + k * q) 2 = f2 at *
      generalize hpp : 12 + k * q = p at *
      have HAR := Lib.hid har
      subst har
      clear hf1 hf2 hpp
      go_wp2_with fail
      apply cutP (R := ∀ (g_ : Nat) (x_ : Nat → Value) (W_ : World), (fun gp V => Below wr.heap.size wr V ∧ wr.heap.size ≤ gp ∧ gp < V.heap.size ∧ V.heap[gp]? = some (.cells #[.int .i64 (f1 : Nat), .int .i64 (f2 : Nat), .int .i64 ((p : Int) + 4), .int .i64 (S : Nat), .int .i64 0] 222 (0, 0))) g_ W_ → _)
      · intro hfin_
        refine wp_region_tree (.step 0 (.step 1 (.step 2 (.step 3 (.step 4 (.step 5 (.step 7 (.step 8 (.step 9 (.step 10 (.step 11 (.step 13 (.step 14 (.step 15 (.step 16 (.step 17 (.step 18 (.two 6 (.two 12 (.step 19 (.step 20 (.step 21 .nil))) 20 (.step 12 (.step 19 (.step 21 .nil)))) 20 (.step 6 (.step 12 (.step 19 (.step 21 .nil)))))))))))))))))))))) (by kernel_rfl) (by kernel_rfl) (by kernel_rfl) (by kernel_rfl) (by intro _ _ d_ _ _ h_; cases d_ <;> first | exact h_ | (dsimp +zetaDelta only at h_ ⊢; exact h_)) (fun w' => ∃ p : Wld wr [], w' = p.val) (wld_start _ _) ?_
        have hG_ := @wldC wr
        (refine tree_quiet gtA (by rfl) (by rfl) (fun K_ hK_ => ?_); go_big_quiet_op; refine hK_ _ ?_; clear hK_ K_)
        (refine tree_quiet gtA (by rfl) (by rfl) (fun K_ hK_ => ?_); go_big_quiet_op; refine hK_ _ ?_; clear hK_ K_)
        (refine tree_quiet gtA (by rfl) (by rfl) (fun K_ hK_ => ?_); go_big_quiet_op; refine hK_ _ ?_; clear hK_ K_)
        (refine tree_quiet gtA (by rfl) (by rfl) (fun K_ hK_ => ?_); go_big_quiet_op; refine hK_ _ ?_; clear hK_ K_)
        (refine tree_quiet gtA (by rfl) (by rfl) (fun K_ hK_ => ?_); go_big_quiet_op; refine hK_ _ ?_; clear hK_ K_)
        (refine tree_quiet gtA (by rfl) (by rfl) (fun K_ hK_ => ?_); go_big_quiet_op; refine hK_ _ ?_; clear hK_ K_)
        (refine tree_quiet gtA (by rfl) (by rfl) (fun K_ hK_ => ?_); go_big_quiet_op; refine hK_ _ ?_; clear hK_ K_)
        (refine tree_quiet gtA (by rfl) (by rfl) (fun K_ hK_ => ?_); go_big_quiet_op; refine hK_ _ ?_; clear hK_ K_)
        (refine tree_quiet gtA (by rfl) (by rfl) (fun K_ hK_ => ?_); go_big_quiet_op; refine hK_ _ ?_; clear hK_ K_)
        (refine tree_quiet gtA (by rfl) (by rfl) (fun K_ hK_ => ?_); go_big_quiet_op; refine hK_ _ ?_; clear hK_ K_)
        (refine tree_quiet gtA (by rfl) (by rfl) (fun K_ hK_ => ?_); go_big_quiet_op; refine hK_ _ ?_; clear hK_ K_)
        (refine tree_quiet gtA (by rfl) (by rfl) (fun K_ hK_ => ?_); go_big_quiet_op; refine hK_ _ ?_; clear hK_ K_)
        (refine tree_quiet gtA (by rfl) (by rfl) (fun K_ hK_ => ?_); go_big_quiet_op; refine hK_ _ ?_; clear hK_ K_)
        (refine tree_quiet gtA (by rfl) (by rfl) (fun K_ hK_ => ?_); go_big_quiet_op; refine hK_ _ ?_; clear hK_ K_)
        (refine tree_quiet gtA (by rfl) (by rfl) (fun K_ hK_ => ?_); go_big_quiet_op; refine hK_ _ ?_; clear hK_ K_)
        (refine tree_quiet gtA (by rfl) (by rfl) (fun K_ hK_ => ?_); go_big_quiet_op; refine hK_ _ ?_; clear hK_ K_)
        (refine tree_quiet gtA (by rfl) (by rfl) (fun K_ hK_ => ?_); go_big_quiet_op; refine hK_ _ ?_; clear hK_ K_)
        refine tree_two gtA gtA (by rfl) (by rfl) (fun K_ hK_ => ?_) (fun K_ hK_ => ?_)
        · have HK_ := Lib.hid hK_; clear hK_; go_wp2_with (first | (go_at_call 70; (with_reducible refine (HU2.out _ (HHR.out.below (by exact blw))).mono ?_); rintro e w_ ⟨rfl, rfl⟩) | (go_at_call 70; (with_reducible refine (HU0.out _ (HHR.out.below (by exact blw))).mono ?_); rintro e w_ ⟨rfl, rfl⟩)); refine HK_.out _ _ (wld_ofA) ?_; clear HK_
          refine tree_two gtA gtA (by rfl) (by rfl) (fun K_ hK_ => ?_) (fun K_ hK_ => ?_)
          · have HK_ := Lib.hid hK_; clear hK_; go_wp2_with (first | (go_at_call 70; (with_reducible refine (HU2.out _ (HHR.out.below (by exact blw))).mono ?_); rintro e w_ ⟨rfl, rfl⟩) | (go_at_call 70; (with_reducible refine (HU0.out _ (HHR.out.below (by exact blw))).mono ?_); rintro e w_ ⟨rfl, rfl⟩)); refine HK_.out _ _ (wld_ofA) ?_; clear HK_
            (refine tree_quiet gtA (by rfl) (by rfl) (fun K_ hK_ => ?_); go_big_quiet_op; refine hK_ _ ?_; clear hK_ K_)
            (refine tree_run gtA (by rfl) (by rfl) (fun K_ hK_ => ?_); have HK_ := Lib.hid hK_; clear hK_; go_wp2_with (first | (go_at_call 70; (with_reducible refine (HU2.out _ (HHR.out.below (by exact blw))).mono ?_); rintro e w_ ⟨rfl, rfl⟩) | (go_at_call 70; (with_reducible refine (HU0.out _ (HHR.out.below (by exact blw))).mono ?_); rintro e w_ ⟨rfl, rfl⟩)); refine HK_.out _ _ (wld_ofA) ?_; clear HK_)
            (refine tree_run gtA (by rfl) (by rfl) (fun K_ hK_ => ?_); have HK_ := Lib.hid hK_; clear hK_; go_wp2_with (first | (go_at_call 70; (with_reducible refine (HU2.out _ (HHR.out.below (by exact blw))).mono ?_); rintro e w_ ⟨rfl, rfl⟩) | (go_at_call 70; (with_reducible refine (HU0.out _ (HHR.out.below (by exact blw))).mono ?_); rintro e w_ ⟨rfl, rfl⟩)); refine HK_.out _ _ (wld_ofA) ?_; clear HK_)
            refine tree_nil ?_
            refine leaf_any 14 [] (fun gp V => Below wr.heap.size wr V ∧ wr.heap.size ≤ gp ∧ gp < V.heap.size ∧ V.heap[gp]? = some (.cells #[.int .i64 (f1 : Nat), .int .i64 (f2 : Nat), .int .i64 ((p : Int) + 4), .int .i64 (S : Nat), .int .i64 0] 222 (0, 0))) _ (by rfl) (by first | (simp only [blank, List.setIfInBounds_toArray, List.set_cons_succ, List.set_cons_zero]; rfl) | simp only [blank, List.setIfInBounds_toArray, List.set_cons_succ, List.set_cons_zero]) (hfin_ ()) ?_
            exact ⟨blw, Nat.le_refl _, (by simp), (by show (wr.alloc _).heap[wr.heap.size]? = _; rw [heap_push, if_pos rfl])⟩
          · have HK_ := Lib.hid hK_; clear hK_; go_wp2_with (first | (go_at_call 70; (with_reducible refine (HU2.out _ (HHR.out.below (by exact blw))).mono ?_); rintro e w_ ⟨rfl, rfl⟩) | (go_at_call 70; (with_reducible refine (HU0.out _ (HHR.out.below (by exact blw))).mono ?_); rintro e w_ ⟨rfl, rfl⟩)); refine HK_.out _ _ (wld_ofA) ?_; clear HK_
            (refine tree_run gtA (by rfl) (by rfl) (fun K_ hK_ => ?_); have HK_ := Lib.hid hK_; clear hK_; go_wp2_with (first | (go_at_call 70; (with_reducible refine (HU2.out _ (HHR.out.below (by exact blw))).mono ?_); rintro e w_ ⟨rfl, rfl⟩) | (go_at_call 70; (with_reducible refine (HU0.out _ (HHR.out.below (by exact blw))).mono ?_); rintro e w_ ⟨rfl, rfl⟩)); refine HK_.out _ _ (wld_ofA) ?_; clear HK_)
            (refine tree_quiet gtA (by rfl) (by rfl) (fun K_ hK_ => ?_); go_big_quiet_op; refine hK_ _ ?_; clear hK_ K_)
            (refine tree_run gtA (by rfl) (by rfl) (fun K_ hK_ => ?_); have HK_ := Lib.hid hK_; clear hK_; go_wp2_with (first | (go_at_call 70; (with_reducible refine (HU2.out _ (HHR.out.below (by exact blw))).mono ?_); rintro e w_ ⟨rfl, rfl⟩) | (go_at_call 70; (with_reducible refine (HU0.out _ (HHR.out.below (by exact blw))).mono ?_); rintro e w_ ⟨rfl, rfl⟩)); refine HK_.out _ _ (wld_ofA) ?_; clear HK_)
            refine tree_nil ?_
            refine leaf_any 14 [] (fun gp V => Below wr.heap.size wr V ∧ wr.heap.size ≤ gp ∧ gp < V.heap.size ∧ V.heap[gp]? = some (.cells #[.int .i64 (f1 : Nat), .int .i64 (f2 : Nat), .int .i64 ((p : Int) + 4), .int .i64 (S : Nat), .int .i64 0] 222 (0, 0))) _ (by rfl) (by first | (simp only [blank, List.setIfInBounds_toArray, List.set_cons_succ, List.set_cons_zero]; rfl) | simp only [blank, List.setIfInBounds_toArray, List.set_cons_succ, List.set_cons_zero]) (hfin_ ()) ?_
            exact ⟨blw, Nat.le_refl _, (by simp), (by show (wr.alloc _).heap[wr.heap.size]? = _; rw [heap_push, if_pos rfl])⟩
        · have HK_ := Lib.hid hK_; clear hK_; go_wp2_with (first | (go_at_call 70; (with_reducible refine (HU2.out _ (HHR.out.below (by exact blw))).mono ?_); rintro e w_ ⟨rfl, rfl⟩) | (go_at_call 70; (with_reducible refine (HU0.out _ (HHR.out.below (by exact blw))).mono ?_); rintro e w_ ⟨rfl, rfl⟩)); refine HK_.out _ _ (wld_ofA) ?_; clear HK_
          (refine tree_run gtA (by rfl) (by rfl) (fun K_ hK_ => ?_); have HK_ := Lib.hid hK_; clear hK_; go_wp2_with (first | (go_at_call 70; (with_reducible refine (HU2.out _ (HHR.out.below (by exact blw))).mono ?_); rintro e w_ ⟨rfl, rfl⟩) | (go_at_call 70; (with_reducible refine (HU0.out _ (HHR.out.below (by exact blw))).mono ?_); rintro e w_ ⟨rfl, rfl⟩)); refine HK_.out _ _ (wld_ofA) ?_; clear HK_)
          (refine tree_run gtA (by rfl) (by rfl) (fun K_ hK_ => ?_); have HK_ := Lib.hid hK_; clear hK_; go_wp2_with (first | (go_at_call 70; (with_reducible refine (HU2.out _ (HHR.out.below (by exact blw))).mono ?_); rintro e w_ ⟨rfl, rfl⟩) | (go_at_call 70; (with_reducible refine (HU0.out _ (HHR.out.below (by exact blw))).mono ?_); rintro e w_ ⟨rfl, rfl⟩)); refine HK_.out _ _ (wld_ofA) ?_; clear HK_)
          (refine tree_quiet gtA (by rfl) (by rfl) (fun K_ hK_ => ?_); go_big_quiet_op; refine hK_ _ ?_; clear hK_ K_)
          (refine tree_run gtA (by rfl) (by rfl) (fun K_ hK_ => ?_); have HK_ := Lib.hid hK_; clear hK_; go_wp2_with (first | (go_at_call 70; (with_reducible refine (HU2.out _ (HHR.out.below (by exact blw))).mono ?_); rintro e w_ ⟨rfl, rfl⟩) | (go_at_call 70; (with_reducible refine (HU0.out _ (HHR.out.below (by exact blw))).mono ?_); rintro e w_ ⟨rfl, rfl⟩)); refine HK_.out _ _ (wld_ofA) ?_; clear HK_)
          refine tree_nil ?_
          refine leaf_any 14 [] (fun gp V => Below wr.heap.size wr V ∧ wr.heap.size ≤ gp ∧ gp < V.heap.size ∧ V.heap[gp]? = some (.cells #[.int .i64 (f1 : Nat), .int .i64 (f2 : Nat), .int .i64 ((p : Int) + 4), .int .i64 (S : Nat), .int .i64 0] 222 (0, 0))) _ (by rfl) (by first | (simp only [blank, List.setIfInBounds_toArray, List.set_cons_succ, List.set_cons_zero]; rfl) | simp only [blank, List.setIfInBounds_toArray, List.set_cons_succ, List.set_cons_zero]) (hfin_ ()) ?_
          exact ⟨blw, Nat.le_refl _, (by simp), (by show (wr.alloc _).heap[wr.heap.size]? = _; rw [heap_push, if_pos rfl])⟩
      intro gp x V ⟨hV, _, hgp2, hgp⟩
      simp only [fill, List.setIfInBounds_toArray, List.set_cons_succ, List.set_cons_zero]
      have p0 := cell_of_heap hgp 0
      have p1 := cell_of_heap hgp 1
      have p2 := cell_of_heap hgp 2
      have p3 := cell_of_heap hgp 3
      have p4 := cell_of_heap hgp 4
      simp only [List.getElem?_toArray, List.getElem?_cons_succ, List.getElem?_cons_zero] at p0 p1 p2 p3 p4
      have HVV := Lib.hid hV
      have hzV := hV.size
      have hz2 : w2.heap.size ≤ wr.heap.size := HBR.out.size
      clear hV hgp hcw hcr
      go_wp2_with (first | (at_builtin; refine wpAppL rfl _ _ 40 rfl w2.heap.size 222 (.agg #[.int .i64 0, .int .i64 0, .int .i64 0, .int .i64 0, .int .i64 0]) 5 40 Try.underlying40 rp_info rfl (by decide) _ k (encRs (rs.take k)) rfl (owns_below HOW.out (balloc HVV.out _) (Nat.le_refl _)) ⟨V.heap.size, 0, none⟩ 1 1 [.int .i64 (f1 : Nat), .int .i64 (f2 : Nat), .int .i64 ((p : Int) + 4), .int .i64 (S : Nat), .int .i64 0] rfl rfl (has_alloc _ _ _) (fun u hu => by simp at hu; rcases hu with rfl | rfl | rfl | rfl | rfl <;> rfl) (by unfold maxLen; omega) (by omega) (by simp; omega) ?_; intro a4 c4 w4 hown4 t41 t42 t43 hb4 hg4; have HO4 := Lib.hid hown4; have HB4 := Lib.hid hb4; have hz4 := hg4.size; clear hown4 hb4 hg4 t43; (try dsimp only [Act.put]); (try simp only [List.setIfInBounds_toArray, List.set_cons_succ, List.set_cons_zero])))
      have HT4 := Lib.hid (show encRs (rs.take k) ++ [.int .i64 (f1 : Nat), .int .i64 (f2 : Nat), .int .i64 ((p : Int) + 4), .int .i64 (S : Nat), .int .i64 0] = encRs (rs.take (k + 1)) from by rw [List.take_add_one, HRK.out]; show _ = encRs (_ ++ [_]); rw [← encRs_snoc]; simp [encR])
      have HB5 := Lib.hid (HBR.out.trans ((HVV.out.mono hz2).trans (((Below.refl w2.heap.size V).alloc (by omega) _).trans HB4.out)))
      go_roundw
      case rel => exact ⟨rfl, k + 1, a4, c4, by rw [HLEN.out]; exact HLT.out, by go_num, rfl, by rw [← HT4.out]; exact HO4.out, t41, t42, HB5.out⟩
      case measure => simp [Go.RowKit.intOf]; have := HLT.out; omega
    · obtain rfl : k = M := by omega
      go_wp2_with fail
      go_ret2
      have ht := HOW.out
      rw [List.take_of_length_le (by rw [HLEN.out]; exact Nat.le_refl _)] at ht
      exact ⟨⟨rs, true, a3, c3, by rw [HLEN.out]; rfl, hasN_of_owns ht HB2.out.size, by rw [HLEN.out]; exact o1, o2, by rw [HLEN.out]; exact hM7, fun _ => ⟨HOK.out, by rw [HMM.out]; exact HRE.out.symm⟩, fun hx => (by cases hx)⟩, HBX.out⟩

/-- The numbers that a part tells of are there, whatever its first and last are. -/
def fitZ (n : Nat) (r : RP) : Prop := fitK n 2 (r.at_ : Int) ((r.last : Int) - (r.first : Int) + 1) (r.size : Int)
def SgRel4 (W : World) (n : Nat) (rs : List RP) (ok out i : Value) (wr : World) : Prop :=
  ∃ (okb : Bool) (k : Nat) (a' : Option Addr) (c' : Nat), k ≤ rs.length ∧ i = .int .i64 (k : Nat) ∧ ok = .bool okb ∧ out = .slice a' k c' ∧ wr.ownsRow W.heap.size 222 5 out k (encRs (rs.take k)) ∧ k ≤ c' ∧ c' ≤ maxLen ∧
    ((okb = true → ∀ (i : Nat) (r : RP), (rs.take k)[i]? = some r → fitZ n r) ∧ (okb = false → ∃ (i : Nat) (r : RP), i < k ∧ rs[i]? = some r ∧ ¬ fitZ n r)) ∧ Below W.heap.size W wr
set_option maxRecDepth 100000 in
set_option maxHeartbeats 3200000 in
theorem segs_true (a : Option Addr) (n c : Nat) (bs : List UInt8) (S : Nat) (zs : Int) (hzs : zs = (S : Nat)) (hS : S = 2 ∨ S = 4) (w : World) (h : Has w a (bytesV bs)) (hl : bs.length = n) (hn : n ≤ c) (hc : c ≤ maxLen) (h20 : n ≤ 4000) :
    Calls Try.prog 161 #[.slice a n c, .int .i64 zs, .bool true] w (PartsRes (fun rs okb => (okb = true → skOk bs 2 6 ∧ rs = rows4 bs S (skM bs 2 2) ∧ ∀ r ∈ rs, fitZ n r) ∧ (okb = false → ¬ skOk bs 2 6 ∨ ∃ r ∈ rows4 bs S (skM bs 2 2), ¬ fitZ n r)) w) := by
  have hAC := allocC
  have hAF := allocF
  subst hzs
  have HR := Lib.hid (sref_z a n c bs 6 2 6 2 rfl rfl w h hl hn hc h20 (by omega) (by omega) (by decide) (by omega))
  have HH := Lib.hid h
  have HL := Lib.hid hl
  clear h hl
  go_enter Try.func161, Try.ntmps161
  go_wp2_with fail
  refine HR.out.mono ?_
  rintro e w2 ⟨(⟨a2, c2, hok, rfl, hrow, q1, q2⟩ | ⟨hno, rfl⟩), hb2⟩
  case inr =>
    have HB2 := Lib.hid hb2
    have HNO := Lib.hid hno
    clear hb2 hno HR
    go_wp2_with fail
    go_loopw [11, 12, 13] (fun ok out i wr => ok = .bool false ∧ (∃ x y, out = .slice x 0 y ∧ y ≤ maxLen) ∧ i = .int .i64 0 ∧ Below w2.heap.size w2 wr) (fun _ _ _ _ => 0)
    case atStart => exact ⟨rfl, ⟨_, _, rfl, Nat.zero_le _⟩, rfl, blw⟩
    case round =>
      obtain ⟨rfl, ⟨x, y, rfl, hy⟩, rfl, hbr⟩ := hrel
      have HBR := Lib.hid (HB2.out.trans (hbr.mono HB2.out.size))
      clear hbr
      go_wp2_with fail
      go_ret2
      exact ⟨⟨[], false, _, _, rfl, hasN_nil, Nat.zero_le _, hy, Nat.zero_le _, fun hx => (by cases hx), fun _ => .inl HNO.out⟩, HBR.out⟩
  have HOK := Lib.hid hok
  have HB2 := Lib.hid hb2
  have HROW := Lib.hid hrow
  have hMN : skM bs 2 2 ≤ skN bs 2 := by unfold skM; split <;> omega
  have hM7 : skM bs 2 2 ≤ 65535 := Nat.le_trans hMN (num2_lt _ _)
  have hfit := hok.rows
  have hsz := hok.size
  rw [HL.out] at hfit
  have HRS := Lib.hid (show ∀ j, j < skM bs 2 2 → (rows4 bs S (skM bs 2 2))[j]? = some ⟨num bs (12 + j * skS bs 2 + 2) 2, num bs (12 + j * skS bs 2) 2, num bs (12 + j * skS bs 2 + 4) 2, S, true⟩ from fun j hj => by simp [rows4, List.getElem?_map, List.getElem?_range hj])
  have HLEN := Lib.hid (show (rows4 bs S (skM bs 2 2)).length = skM bs 2 2 from by simp [rows4])
  clear hok hb2 hrow HR
  generalize hrs : rows4 bs S (skM bs 2 2) = rs at *
  have HRE := Lib.hid hrs
  clear hrs
  generalize hMM : skM bs 2 2 = M at *
  have HMM := Lib.hid hMM
  clear hMM
  generalize skS bs 2 = q at *
  generalize skN bs 2 = N at *
  have HFIT := Lib.hid (show ∀ j, j < M → 12 + j * q + q ≤ n from fun j hj => by
    have : j * q + q ≤ N * q := by rw [← Nat.succ_mul]; exact Nat.mul_le_mul_right _ (by omega)
    omega)
  clear hfit hMN
  go_wp2_with fail
  go_loopw [11, 12, 13] (SgRel4 w2 n rs) (fun _ _ i _ => M - (Go.RowKit.intOf i).toNat)
  case atStart => exact ⟨true, 0, _, _, Nat.zero_le _, rfl, rfl, rfl, World.ownsRow_lit w2 #[] 0 (Nat.le_refl _) (by decide) rfl, Nat.le_refl _, Nat.zero_le _, ⟨fun _ i r hi => (by simp at hi), fun hx => (by cases hx)⟩, blw⟩
  case round =>
    obtain ⟨okb, k, a3, c3, hk, rfl, rfl, rfl, hown, o1, o2, hokb, hbr⟩ := hrel
    rw [HLEN.out] at hk
    have HOW := Lib.hid hown
    have HBR := Lib.hid hbr
    have HBX := Lib.hid (HB2.out.trans (hbr.mono HB2.out.size))
    have HOKB := Lib.hid hokb
    clear hown hbr hokb
    by_cases hlt : k < M
    · cases okb with
      | false =>
        go_wp2_with fail
        go_ret2
        obtain ⟨j, r, hj, hr, hx⟩ := HOKB.out.2 (by simp)
        have hle : (rs.take k).length = k := by rw [List.length_take, HLEN.out]; omega
        exact ⟨⟨rs.take k, false, a3, c3, by rw [hle]; rfl, hasN_of_owns HOW.out HB2.out.size, by rw [hle]; exact o1, o2, by rw [hle]; omega, fun hx => (by cases hx), fun _ => .inr ⟨r, by rw [HMM.out, HRE.out]; exact List.mem_of_getElem? hr, hx⟩⟩, HBX.out⟩
      | true =>
      have hp := HFIT.out k hlt
      have HRK := Lib.hid (HRS.out k hlt)
      have HLT := Lib.hid hlt
      have hkp : (intsV (placesV 2 q M))[k]? = some (.int .i64 ((12 + k * q : Nat) : Int)) := by simp [intsV, placesV, List.getElem?_map, List.getElem?_range hlt]
      obtain ⟨ar, har, hcr⟩ := (HROW.out.below HBR.out) k _ hkp
      have hcw : ∀ pp : Wld wr [], pp.val.cell? (ar.add k) = some (.int .i64 ((12 + k * q : Nat) : Int)) := fun pp => by
        obtain ⟨x, hx, hc⟩ := has_wld (HROW.out.below HBR.out) pp k _ hkp
        rw [har] at hx
        cases hx
        exact hc
      clear hkp
      have HU2 := Lib.hid (fun W hw => u2_z a n c (12 + k * q + 2) (((12 + k * q : Nat) : Int) + 2) (by omega) bs W hw HL.out (by omega) (Nat.le_trans hn hc))
      have HU0 := Lib.hid (fun W hw => u2_z a n c (12 + k * q) (((12 + k * q : Nat) : Int)) rfl bs W hw HL.out (by omega) (Nat.le_trans hn hc))
      have HU4 := Lib.hid (fun W hw => u2_z a n c (12 + k * q + 4) (((12 + k * q : Nat) : Int) + 4) (by omega) bs W hw HL.out (by omega) (Nat.le_trans hn hc))
      have hf4l := num2_lt bs (12 + k * q + 4)
      have hf1l := num2_lt bs (12 + k * q + 2)
      have hf2l := num2_lt bs (12 + k * q)
      have HHR := Lib.hid (HH.out.below HBX.out)
      generalize hf1 : num bs (12 + k * q + 2) 2 = f1 at *
      generalize hf2 : num bs (12 + k * q) 2 = f2 at *
      generalize hf4 : num bs (12 + k * q + 4) 2 = f4 at *
      generalize hpp : 12 + k * q = p at *
      have HAR := Lib.hid har
      subst har
      clear hf1 hf2 hf4 hpp
      go_wp2_with fail
      apply cutP (R := ∀ (g_ : Nat) (x_ : Nat → Value) (W_ : World), (fun gp V => Below wr.heap.size wr V ∧ wr.heap.size ≤ gp ∧ gp < V.heap.size ∧ V.heap[gp]? = some (.cells #[.int .i64 (f1 : Nat), .int .i64 (f2 : Nat), .int .i64 ((p : Int) + 4), .int .i64 (S : Nat), .int .i64 0] 222 (0, 0))) g_ W_ → _)
      · intro hfin_
        refine wp_region_tree (.step 0 (.step 1 (.step 2 (.step 3 (.step 4 (.step 5 (.step 7 (.step 8 (.step 9 (.step 10 (.step 11 (.step 13 (.step 14 (.step 15 (.step 16 (.step 17 (.step 18 (.two 6 (.two 12 (.step 19 (.step 20 (.step 21 .nil))) 20 (.step 12 (.step 19 (.step 21 .nil)))) 20 (.step 6 (.step 12 (.step 19 (.step 21 .nil)))))))))))))))))))))) (by kernel_rfl) (by kernel_rfl) (by kernel_rfl) (by kernel_rfl) (by intro _ _ d_ _ _ h_; cases d_ <;> first | exact h_ | (dsimp +zetaDelta only at h_ ⊢; exact h_)) (fun w' => ∃ p : Wld wr [], w' = p.val) (wld_start _ _) ?_
        have hG_ := @wldC wr
        (refine tree_quiet gtA (by rfl) (by rfl) (fun K_ hK_ => ?_); go_big_quiet_op; refine hK_ _ ?_; clear hK_ K_)
        (refine tree_quiet gtA (by rfl) (by rfl) (fun K_ hK_ => ?_); go_big_quiet_op; refine hK_ _ ?_; clear hK_ K_)
        (refine tree_quiet gtA (by rfl) (by rfl) (fun K_ hK_ => ?_); go_big_quiet_op; refine hK_ _ ?_; clear hK_ K_)
        (refine tree_quiet gtA (by rfl) (by rfl) (fun K_ hK_ => ?_); go_big_quiet_op; refine hK_ _ ?_; clear hK_ K_)
        (refine tree_quiet gtA (by rfl) (by rfl) (fun K_ hK_ => ?_); go_big_quiet_op; refine hK_ _ ?_; clear hK_ K_)
        (refine tree_quiet gtA (by rfl) (by rfl) (fun K_ hK_ => ?_); go_big_quiet_op; refine hK_ _ ?_; clear hK_ K_)
        (refine tree_quiet gtA (by rfl) (by rfl) (fun K_ hK_ => ?_); go_big_quiet_op; refine hK_ _ ?_; clear hK_ K_)
        (refine tree_quiet gtA (by rfl) (by rfl) (fun K_ hK_ => ?_); go_big_quiet_op; refine hK_ _ ?_; clear hK_ K_)
        (refine tree_quiet gtA (by rfl) (by rfl) (fun K_ hK_ => ?_); go_big_quiet_op; refine hK_ _ ?_; clear hK_ K_)
        (refine tree_quiet gtA (by rfl) (by rfl) (fun K_ hK_ => ?_); go_big_quiet_op; refine hK_ _ ?_; clear hK_ K_)
        (refine tree_quiet gtA (by rfl) (by rfl) (fun K_ hK_ => ?_); go_big_quiet_op; refine hK_ _ ?_; clear hK_ K_)
        (refine tree_quiet gtA (by rfl) (by rfl) (fun K_ hK_ => ?_); go_big_quiet_op; refine hK_ _ ?_; clear hK_ K_)
        (refine tree_quiet gtA (by rfl) (by rfl) (fun K_ hK_ => ?_); go_big_quiet_op; refine hK_ _ ?_; clear hK_ K_)
        (refine tree_quiet gtA (by rfl) (by rfl) (fun K_ hK_ => ?_); go_big_quiet_op; refine hK_ _ ?_; clear hK_ K_)
        (refine tree_quiet gtA (by rfl) (by rfl) (fun K_ hK_ => ?_); go_big_quiet_op; refine hK_ _ ?_; clear hK_ K_)
        (refine tree_quiet gtA (by rfl) (by rfl) (fun K_ hK_ => ?_); go_big_quiet_op; refine hK_ _ ?_; clear hK_ K_)
        (refine tree_quiet gtA (by rfl) (by rfl) (fun K_ hK_ => ?_); go_big_quiet_op; refine hK_ _ ?_; clear hK_ K_)
        refine tree_two gtA gtA (by rfl) (by rfl) (fun K_ hK_ => ?_) (fun K_ hK_ => ?_)
        · have HK_ := Lib.hid hK_; clear hK_; go_wp2_with (first | (go_at_call 70; (with_reducible refine (HU2.out _ (HHR.out.below (by exact blw))).mono ?_); rintro e w_ ⟨rfl, rfl⟩) | (go_at_call 70; (with_reducible refine (HU0.out _ (HHR.out.below (by exact blw))).mono ?_); rintro e w_ ⟨rfl, rfl⟩)); refine HK_.out _ _ (wld_ofA) ?_; clear HK_
          refine tree_two gtA gtA (by rfl) (by rfl) (fun K_ hK_ => ?_) (fun K_ hK_ => ?_)
          · have HK_ := Lib.hid hK_; clear hK_; go_wp2_with (first | (go_at_call 70; (with_reducible refine (HU2.out _ (HHR.out.below (by exact blw))).mono ?_); rintro e w_ ⟨rfl, rfl⟩) | (go_at_call 70; (with_reducible refine (HU0.out _ (HHR.out.below (by exact blw))).mono ?_); rintro e w_ ⟨rfl, rfl⟩)); refine HK_.out _ _ (wld_ofA) ?_; clear HK_
            (refine tree_quiet gtA (by rfl) (by rfl) (fun K_ hK_ => ?_); go_big_quiet_op; refine hK_ _ ?_; clear hK_ K_)
            (refine tree_run gtA (by rfl) (by rfl) (fun K_ hK_ => ?_); have HK_ := Lib.hid hK_; clear hK_; go_wp2_with (first | (go_at_call 70; (with_reducible refine (HU2.out _ (HHR.out.below (by exact blw))).mono ?_); rintro e w_ ⟨rfl, rfl⟩) | (go_at_call 70; (with_reducible refine (HU0.out _ (HHR.out.below (by exact blw))).mono ?_); rintro e w_ ⟨rfl, rfl⟩)); refine HK_.out _ _ (wld_ofA) ?_; clear HK_)
            (refine tree_run gtA (by rfl) (by rfl) (fun K_ hK_ => ?_); have HK_ := Lib.hid hK_; clear hK_; go_wp2_with (first | (go_at_call 70; (with_reducible refine (HU2.out _ (HHR.out.below (by exact blw))).mono ?_); rintro e w_ ⟨rfl, rfl⟩) | (go_at_call 70; (with_reducible refine (HU0.out _ (HHR.out.below (by exact blw))).mono ?_); rintro e w_ ⟨rfl, rfl⟩)); refine HK_.out _ _ (wld_ofA) ?_; clear HK_)
            refine tree_nil ?_
            refine leaf_any 14 [] (fun gp V => Below wr.heap.size wr V ∧ wr.heap.size ≤ gp ∧ gp < V.heap.size ∧ V.heap[gp]? = some (.cells #[.int .i64 (f1 : Nat), .int .i64 (f2 : Nat), .int .i64 ((p : Int) + 4), .int .i64 (S : Nat), .int .i64 0] 222 (0, 0))) _ (by rfl) (by first | (simp only [blank, List.setIfInBounds_toArray, List.set_cons_succ, List.set_cons_zero]; rfl) | simp only [blank, List.setIfInBounds_toArray, List.set_cons_succ, List.set_cons_zero]) (hfin_ ()) ?_
            exact ⟨blw, Nat.le_refl _, (by simp), (by show (wr.alloc _).heap[wr.heap.size]? = _; rw [heap_push, if_pos rfl])⟩
          · have HK_ := Lib.hid hK_; clear hK_; go_wp2_with (first | (go_at_call 70; (with_reducible refine (HU2.out _ (HHR.out.below (by exact blw))).mono ?_); rintro e w_ ⟨rfl, rfl⟩) | (go_at_call 70; (with_reducible refine (HU0.out _ (HHR.out.below (by exact blw))).mono ?_); rintro e w_ ⟨rfl, rfl⟩)); refine HK_.out _ _ (wld_ofA) ?_; clear HK_
            (refine tree_run gtA (by rfl) (by rfl) (fun K_ hK_ => ?_); have HK_ := Lib.hid hK_; clear hK_; go_wp2_with (first | (go_at_call 70; (with_reducible refine (HU2.out _ (HHR.out.below (by exact blw))).mono ?_); rintro e w_ ⟨rfl, rfl⟩) | (go_at_call 70; (with_reducible refine (HU0.out _ (HHR.out.below (by exact blw))).mono ?_); rintro e w_ ⟨rfl, rfl⟩)); refine HK_.out _ _ (wld_ofA) ?_; clear HK_)
            (refine tree_quiet gtA (by rfl) (by rfl) (fun K_ hK_ => ?_); go_big_quiet_op; refine hK_ _ ?_; clear hK_ K_)
            (refine tree_run gtA (by rfl) (by rfl) (fun K_ hK_ => ?_); have HK_ := Lib.hid hK_; clear hK_; go_wp2_with (first | (go_at_call 70; (with_reducible refine (HU2.out _ (HHR.out.below (by exact blw))).mono ?_); rintro e w_ ⟨rfl, rfl⟩) | (go_at_call 70; (with_reducible refine (HU0.out _ (HHR.out.below (by exact blw))).mono ?_); rintro e w_ ⟨rfl, rfl⟩)); refine HK_.out _ _ (wld_ofA) ?_; clear HK_)
            refine tree_nil ?_
            refine leaf_any 14 [] (fun gp V => Below wr.heap.size wr V ∧ wr.heap.size ≤ gp ∧ gp < V.heap.size ∧ V.heap[gp]? = some (.cells #[.int .i64 (f1 : Nat), .int .i64 (f2 : Nat), .int .i64 ((p : Int) + 4), .int .i64 (S : Nat), .int .i64 0] 222 (0, 0))) _ (by rfl) (by first | (simp only [blank, List.setIfInBounds_toArray, List.set_cons_succ, List.set_cons_zero]; rfl) | simp only [blank, List.setIfInBounds_toArray, List.set_cons_succ, List.set_cons_zero]) (hfin_ ()) ?_
            exact ⟨blw, Nat.le_refl _, (by simp), (by show (wr.alloc _).heap[wr.heap.size]? = _; rw [heap_push, if_pos rfl])⟩
        · have HK_ := Lib.hid hK_; clear hK_; go_wp2_with (first | (go_at_call 70; (with_reducible refine (HU2.out _ (HHR.out.below (by exact blw))).mono ?_); rintro e w_ ⟨rfl, rfl⟩) | (go_at_call 70; (with_reducible refine (HU0.out _ (HHR.out.below (by exact blw))).mono ?_); rintro e w_ ⟨rfl, rfl⟩)); refine HK_.out _ _ (wld_ofA) ?_; clear HK_
          (refine tree_run gtA (by rfl) (by rfl) (fun K_ hK_ => ?_); have HK_ := Lib.hid hK_; clear hK_; go_wp2_with (first | (go_at_call 70; (with_reducible refine (HU2.out _ (HHR.out.below (by exact blw))).mono ?_); rintro e w_ ⟨rfl, rfl⟩) | (go_at_call 70; (with_reducible refine (HU0.out _ (HHR.out.below (by exact blw))).mono ?_); rintro e w_ ⟨rfl, rfl⟩)); refine HK_.out _ _ (wld_ofA) ?_; clear HK_)
          (refine tree_run gtA (by rfl) (by rfl) (fun K_ hK_ => ?_); have HK_ := Lib.hid hK_; clear hK_; go_wp2_with (first | (go_at_call 70; (with_reducible refine (HU2.out _ (HHR.out.below (by exact blw))).mono ?_); rintro e w_ ⟨rfl, rfl⟩) | (go_at_call 70; (with_reducible refine (HU0.out _ (HHR.out.below (by exact blw))).mono ?_); rintro e w_ ⟨rfl, rfl⟩)); refine HK_.out _ _ (wld_ofA) ?_; clear HK_)
          (refine tree_quiet gtA (by rfl) (by rfl) (fun K_ hK_ => ?_); go_big_quiet_op; refine hK_ _ ?_; clear hK_ K_)
          (refine tree_run gtA (by rfl) (by rfl) (fun K_ hK_ => ?_); have HK_ := Lib.hid hK_; clear hK_; go_wp2_with (first | (go_at_call 70; (with_reducible refine (HU2.out _ (HHR.out.below (by exact blw))).mono ?_); rintro e w_ ⟨rfl, rfl⟩) | (go_at_call 70; (with_reducible refine (HU0.out _ (HHR.out.below (by exact blw))).mono ?_); rintro e w_ ⟨rfl, rfl⟩)); refine HK_.out _ _ (wld_ofA) ?_; clear HK_)
          refine tree_nil ?_
          refine leaf_any 14 [] (fun gp V => Below wr.heap.size wr V ∧ wr.heap.size ≤ gp ∧ gp < V.heap.size ∧ V.heap[gp]? = some (.cells #[.int .i64 (f1 : Nat), .int .i64 (f2 : Nat), .int .i64 ((p : Int) + 4), .int .i64 (S : Nat), .int .i64 0] 222 (0, 0))) _ (by rfl) (by first | (simp only [blank, List.setIfInBounds_toArray, List.set_cons_succ, List.set_cons_zero]; rfl) | simp only [blank, List.setIfInBounds_toArray, List.set_cons_succ, List.set_cons_zero]) (hfin_ ()) ?_
          exact ⟨blw, Nat.le_refl _, (by simp), (by show (wr.alloc _).heap[wr.heap.size]? = _; rw [heap_push, if_pos rfl])⟩
      intro gp x V ⟨hV, _, hgp2, hgp⟩
      simp only [fill, List.setIfInBounds_toArray, List.set_cons_succ, List.set_cons_zero]
      have p0 := cell_of_heap hgp 0
      have p1 := cell_of_heap hgp 1
      have p2 := cell_of_heap hgp 2
      have p3 := cell_of_heap hgp 3
      have p4 := cell_of_heap hgp 4
      have pf := fun o => froz_of_heap hgp o
      simp only [List.getElem?_toArray, List.getElem?_cons_succ, List.getElem?_cons_zero] at p0 p1 p2 p3 p4
      have HVV := Lib.hid hV
      have HGP := Lib.hid hgp
      have hzV := hV.size
      have hz2 : w2.heap.size ≤ wr.heap.size := HBR.out.size
      have HHV := Lib.hid (HHR.out.below hV)
      have hcV := (hV.cell (p := ar.add k) (cell_lt hcr)).trans hcr
      clear hV hgp hcw hcr
      go_wp2_with fail
      refine (HU4.out V HHV.out).mono ?_
      rintro e w_ ⟨rfl, rfl⟩
      rename World => V
      have HX := Lib.hid (bset (p := ⟨gp, 4, none⟩) (bset (p := ⟨gp, 2, none⟩) HVV.out (by assumption) (.int .i64 (f4 : Nat))) (by assumption) (.int .i64 (S : Nat)))
      have hx4 := set_heap_at (o := 4) (.int .i64 (S : Nat)) (set_heap_at (o := 2) (.int .i64 (f4 : Nat)) HGP.out)
      simp only [List.setIfInBounds_toArray, List.set_cons_succ, List.set_cons_zero] at hx4
      obtain ⟨okb, hokb⟩ : ∃ okb : Bool, okb = true ↔ fitK n 2 (f4 : Int) ((f2 : Int) - (f1 : Int) + 1) (S : Int) := by
        by_cases hft : fitK n 2 (f4 : Int) ((f2 : Int) - (f1 : Int) + 1) (S : Int)
        · exact ⟨true, by simp [hft]⟩
        · exact ⟨false, by simp [hft]⟩
      have HRR := Lib.hid (fun W => rref_any n (f4 : Int) ((f2 : Int) - (f1 : Int) + 1) (S : Int) okb hokb W (Nat.le_trans hn hc) (by omega) (by omega) (by omega))
      have HOKN := Lib.hid hokb
      clear hokb
      go_wp2_with fail
      obtain ⟨X, hXE⟩ : ∃ X, X = (V.setCell ⟨gp, 2, none⟩ (.int .i64 (f4 : Nat))).setCell ⟨gp, 4, none⟩ (.int .i64 (S : Nat)) := ⟨_, rfl⟩
      rw [← hXE] at HX hx4 ⊢
      clear hXE p0 p1 p2 p3 p4 pf hcV
      refine (HRR.out X).mono ?_
      rintro e w_ ⟨rfl, rfl⟩
      rename World => X
      have x0 := cell_of_heap hx4 0
      have x1 := cell_of_heap hx4 1
      have x2 := cell_of_heap hx4 2
      have x3 := cell_of_heap hx4 3
      have x4 := cell_of_heap hx4 4
      simp only [List.getElem?_toArray, List.getElem?_cons_succ, List.getElem?_cons_zero] at x0 x1 x2 x3 x4
      have hzX := HX.out.size
      have hgX := cell_lt x0
      simp only at hgX
      clear hx4
      go_wp2_with (first | (at_builtin; refine wpAppL rfl _ _ 40 rfl w2.heap.size 222 (.agg #[.int .i64 0, .int .i64 0, .int .i64 0, .int .i64 0, .int .i64 0]) 5 40 Try.underlying40 rp_info rfl (by decide) _ k (encRs (rs.take k)) rfl (owns_below HOW.out (balloc HX.out _) (Nat.le_refl _)) ⟨X.heap.size, 0, none⟩ 1 1 [.int .i64 (f1 : Nat), .int .i64 (f2 : Nat), .int .i64 (f4 : Nat), .int .i64 (S : Nat), .int .i64 (S : Nat)] rfl rfl (has_alloc _ _ _) (fun u hu => by simp at hu; rcases hu with rfl | rfl | rfl | rfl | rfl <;> rfl) (by unfold maxLen; omega) (by omega) (by simp; omega) ?_; intro a4 c4 w4 hown4 t41 t42 t43 hb4 hg4; have HO4 := Lib.hid hown4; have HB4 := Lib.hid hb4; have hz4 := hg4.size; clear hown4 hb4 hg4 t43; (try dsimp only [Act.put]); (try simp only [List.setIfInBounds_toArray, List.set_cons_succ, List.set_cons_zero])))
      have HT4 := Lib.hid (show encRs (rs.take k) ++ [.int .i64 (f1 : Nat), .int .i64 (f2 : Nat), .int .i64 (f4 : Nat), .int .i64 (S : Nat), .int .i64 (S : Nat)] = encRs (rs.take (k + 1)) from by rw [List.take_add_one, HRK.out]; show _ = encRs (_ ++ [_]); rw [← encRs_snoc]; simp [encR])
      have HB5 := Lib.hid (HBR.out.trans ((HX.out.mono hz2).trans (((Below.refl w2.heap.size X).alloc (by omega) _).trans HB4.out)))
      have HNX := Lib.hid (show (okb = true → ∀ (i : Nat) (r : RP), (rs.take (k + 1))[i]? = some r → fitZ n r) ∧ (okb = false → ∃ (i : Nat) (r : RP), i < k + 1 ∧ rs[i]? = some r ∧ ¬ fitZ n r) from by
        refine ⟨fun hx i r hi => ?_, fun hx => ⟨k, _, Nat.lt_succ_self k, HRK.out, fun hf => ?_⟩⟩
        · rw [List.take_add_one, HRK.out] at hi
          rcases Nat.lt_or_ge i (rs.take k).length with hl | hl
          · rw [List.getElem?_append_left hl] at hi
            exact HOKB.out.1 (by simp) i r hi
          · rw [List.getElem?_append_right hl] at hi
            have : i - (rs.take k).length = 0 := by
              rcases Nat.eq_zero_or_pos (i - (rs.take k).length) with h0 | h0
              · exact h0
              · rw [List.getElem?_eq_none (by show 1 ≤ _; omega)] at hi
                cases hi
            rw [this] at hi
            simp at hi
            subst hi
            exact HOKN.out.1 hx
        · have := HOKN.out.2 hf
          rw [hx] at this
          cases this)
      go_roundw
      case rel => exact ⟨okb, k + 1, a4, c4, by rw [HLEN.out]; exact HLT.out, by go_num, rfl, rfl, by rw [← HT4.out]; exact HO4.out, t41, t42, HNX.out, HB5.out⟩
      case measure => simp [Go.RowKit.intOf]; have := HLT.out; omega
    · obtain rfl : k = M := by omega
      go_wp2_with fail
      go_ret2
      have ht := HOW.out
      rw [List.take_of_length_le (by rw [HLEN.out]; exact Nat.le_refl _)] at ht
      exact ⟨⟨rs, okb, a3, c3, by rw [HLEN.out]; rfl, hasN_of_owns ht HB2.out.size, by rw [HLEN.out]; exact o1, o2, by rw [HLEN.out]; exact hM7, fun hx => ⟨HOK.out, by rw [HMM.out]; exact HRE.out.symm, fun r hr => by obtain ⟨j, hj, rfl⟩ := List.getElem_of_mem hr; exact HOKB.out.1 hx j _ (by rw [List.take_of_length_le (by rw [HLEN.out]; exact Nat.le_refl _)]; exact List.getElem?_eq_getElem hj)⟩, fun hx => by obtain ⟨j, r, hj, hr, hx⟩ := HOKB.out.2 hx; exact .inr ⟨r, by rw [HMM.out, HRE.out]; exact List.mem_of_getElem? hr, hx⟩⟩, HBX.out⟩

theorem u2_any (a : Option Addr) (n c k : Nat) (z : Int) (hz : z = (k : Nat)) (bs : List UInt8) (w : World) (h : Has w a (bytesV bs)) (hl : bs.length = n) (hn : n ≤ maxLen) (hk : k ≤ 100000) :
    Calls Try.prog 70 #[.slice a n c, .int .i64 z, .int .i64 2] w fun e w' => e = .returned (.int .i64 (if k + 2 ≤ n then (num bs k 2 : Nat) else -1)) ∧ w = w' := by
  subst hz
  by_cases hx : k + 2 ≤ n
  · rw [if_pos hx]; exact u_in a n c k 2 bs w h hl hx (by omega) hn
  · rw [if_neg hx]; exact u_out a n c 2 k w (by omega) (by omega) (by omega) hn
/-- What trimmed answers: its parts, and whether there are such. -/
def TrimZ (bs : List UInt8) (at_ S : Nat) : Prop := at_ + 4 ≤ bs.length ∧ num bs at_ 2 + num bs (at_ + 2) 2 ≤ 65536 ∧ num bs (at_ + 2) 2 * S ≤ bs.length - (at_ + 4)
theorem fitK2 (n k m s : Nat) (hs : 1 ≤ s) : fitK n 2 (k : Int) (m : Int) (s : Int) ↔ k ≤ n ∧ m * s ≤ n - k := by
  unfold fitK
  simp only [Int.toNat_natCast]
  constructor
  · rintro ⟨_, h1, _, _, h2 | h2⟩
    · omega
    · exact ⟨by omega, (Nat.le_div_iff_mul_le (by omega)).1 h2⟩
  · rintro ⟨h1, h2⟩
    exact ⟨by omega, by omega, by omega, by omega, .inr ((Nat.le_div_iff_mul_le (by omega)).2 h2)⟩
set_option maxRecDepth 100000 in
set_option maxHeartbeats 3200000 in
theorem trimmed_any (a : Option Addr) (n c : Nat) (bs : List UInt8) (at_ S : Nat) (za zs : Int) (hza : za = (at_ : Nat)) (hzs : zs = (S : Nat)) (hat : at_ ≤ 10) (hS : S = 1 ∨ S = 2 ∨ S = 4) (w : World) (h : Has w a (bytesV bs)) (hl : bs.length = n) (hn : n ≤ c) (hc : c ≤ maxLen) (h20 : n ≤ 4000) :
    Calls Try.prog 163 #[.slice a n c, .int .i64 za, .int .i64 zs] w (PartsRes (fun rs okb => (okb = true → TrimZ bs at_ S ∧ rs = rowsT (num bs at_ 2) (num bs (at_ + 2) 2) (at_ + 4) S) ∧ (okb = false → ¬ TrimZ bs at_ S)) w) := by
  have hAC := allocC
  have hAF := allocF
  subst hza hzs
  have HH := Lib.hid h
  have HL := Lib.hid hl
  clear h hl
  have hnm : n ≤ maxLen := Nat.le_trans hn hc
  by_cases h2 : at_ + 4 ≤ n
  case neg =>
    have HNO := Lib.hid (show ¬ TrimZ bs at_ S from fun hx => by have := hx.1; rw [HL.out] at this; exact h2 this)
    obtain ⟨f, hf, hf2⟩ : ∃ f : Int, (if at_ + 2 ≤ n then ((num bs at_ 2 : Nat) : Int) else -1) = f ∧ -1 ≤ f ∧ f ≤ 65535 := ⟨_, rfl, by have := num2_lt bs at_; split <;> omega⟩
    obtain ⟨hf2, hf3⟩ := hf2
    have HU0 := Lib.hid (fun W hw => u2_any a n c at_ (at_ : Int) rfl bs W hw HL.out hnm (by omega))
    have HU2 := Lib.hid (fun W hw => u2_any a n c (at_ + 2) ((at_ : Int) + 2) (by omega) bs W hw HL.out hnm (by omega))
    rw [hf] at HU0
    rw [if_neg (by omega)] at HU2
    clear hf
    by_cases hf0 : f < 0
    all_goals
      go_enter Try.func163, Try.ntmps163
      go_wp2_with (first | (go_at_call 70; (with_reducible refine (HU2.out _ HH.out).mono ?_); rintro e w_ ⟨rfl, rfl⟩) | (go_at_call 70; (with_reducible refine (HU0.out _ HH.out).mono ?_); rintro e w_ ⟨rfl, rfl⟩))
      go_ret2
      exact ⟨⟨[], false, none, 0, rfl, hasN_nil, Nat.zero_le _, Nat.zero_le _, Nat.zero_le _, fun hx => (by cases hx), fun _ => HNO.out⟩, Below.refl _ _⟩
  have HU0 := Lib.hid (fun W hw => u2_z a n c at_ (at_ : Int) rfl bs W hw HL.out (by omega) hnm)
  have HU2 := Lib.hid (fun W hw => u2_z a n c (at_ + 2) ((at_ : Int) + 2) (by omega) bs W hw HL.out (by omega) hnm)
  have hfl := num2_lt bs at_
  have hml := num2_lt bs (at_ + 2)
  have HTZ := Lib.hid (show TrimZ bs at_ S ↔ num bs at_ 2 + num bs (at_ + 2) 2 ≤ 65536 ∧ num bs (at_ + 2) 2 * S ≤ n - (at_ + 4) from by unfold TrimZ; rw [HL.out]; exact ⟨fun hx => hx.2, fun hx => ⟨h2, hx⟩⟩)
  generalize num bs at_ 2 = f at *
  generalize num bs (at_ + 2) 2 = m at *
  by_cases hfm : f + m ≤ 65536
  case neg =>
    have HNO := Lib.hid (show ¬ TrimZ bs at_ S from fun hx => hfm (HTZ.out.1 hx).1)
    have hbig : (65536 : Int) < (f : Int) + (m : Int) := by omega
    go_enter Try.func163, Try.ntmps163
    go_wp2_with (first | (go_at_call 70; (with_reducible refine (HU2.out _ HH.out).mono ?_); rintro e w_ ⟨rfl, rfl⟩) | (go_at_call 70; (with_reducible refine (HU0.out _ HH.out).mono ?_); rintro e w_ ⟨rfl, rfl⟩))
    go_ret2
    exact ⟨⟨[], false, none, 0, rfl, hasN_nil, Nat.zero_le _, Nat.zero_le _, Nat.zero_le _, fun hx => (by cases hx), fun _ => HNO.out⟩, Below.refl _ _⟩
  have hbig : ¬ (65536 : Int) < (f : Int) + (m : Int) := by omega
  have hS1 : 1 ≤ S ∧ S ≤ 4 := by omega
  by_cases hfit : m * S ≤ n - (at_ + 4)
  case neg =>
    have HNO := Lib.hid (show ¬ TrimZ bs at_ S from fun hx => hfit (HTZ.out.1 hx).2)
    have HRR := Lib.hid (fun W => rref_any n ((at_ : Int) + 4) (m : Int) (S : Int) false (by have := fitK2 n (at_ + 4) m S hS1.1; rw [show (((at_ + 4 : Nat)) : Int) = (at_ : Int) + 4 by omega] at this; rw [this]; simp; omega) W hnm (by omega) (by omega) (by omega))
    clear hfit
    go_enter Try.func163, Try.ntmps163
    go_wp2_with (first | (go_at_call 70; (with_reducible refine (HU2.out _ HH.out).mono ?_); rintro e w_ ⟨rfl, rfl⟩) | (go_at_call 70; (with_reducible refine (HU0.out _ HH.out).mono ?_); rintro e w_ ⟨rfl, rfl⟩) | (go_at_call 97; refine (HRR.out _).mono ?_; rintro e w_ ⟨rfl, rfl⟩))
    go_ret2
    exact ⟨⟨[], false, none, 0, rfl, hasN_nil, Nat.zero_le _, Nat.zero_le _, Nat.zero_le _, fun hx => (by cases hx), fun _ => HNO.out⟩, Below.refl _ _⟩
  have HRR := Lib.hid (fun W => rref_any n ((at_ : Int) + 4) (m : Int) (S : Int) true (by have := fitK2 n (at_ + 4) m S hS1.1; rw [show (((at_ + 4 : Nat)) : Int) = (at_ : Int) + 4 by omega] at this; rw [this]; simp; omega) W hnm (by omega) (by omega) (by omega))
  have HOK := Lib.hid (HTZ.out.2 ⟨hfm, hfit⟩)
  clear hfit
  by_cases hm0 : m = 0
  · subst hm0
    go_enter Try.func163, Try.ntmps163
    go_wp2_with (first | (go_at_call 70; (with_reducible refine (HU2.out _ HH.out).mono ?_); rintro e w_ ⟨rfl, rfl⟩) | (go_at_call 70; (with_reducible refine (HU0.out _ HH.out).mono ?_); rintro e w_ ⟨rfl, rfl⟩) | (go_at_call 97; refine (HRR.out _).mono ?_; rintro e w_ ⟨rfl, rfl⟩))
    go_ret2
    exact ⟨⟨[], true, _, _, rfl, hasN_nil, Nat.le_refl _, Nat.zero_le _, Nat.zero_le _, fun _ => ⟨HOK.out, by simp [rowsT]⟩, fun hx => (by cases hx)⟩, blw⟩
  · have hmz : ((m : Int) == 0) = false := by rw [beq_eq_false_iff_ne]; omega
    have HRT := Lib.hid (show rowsT f m (at_ + 4) S = [⟨f, f + m - 1, at_ + 4, S, true⟩] from by simp [rowsT, hm0])
    have HL1 := Lib.hid (show (f : Int) + (m : Int) - 1 = ((f + m - 1 : Nat) : Int) by omega)
    go_enter Try.func163, Try.ntmps163
    go_wp2_with (first | (go_at_call 70; (with_reducible refine (HU2.out _ HH.out).mono ?_); rintro e w_ ⟨rfl, rfl⟩) | (go_at_call 70; (with_reducible refine (HU0.out _ HH.out).mono ?_); rintro e w_ ⟨rfl, rfl⟩) | (go_at_call 97; refine (HRR.out _).mono ?_; rintro e w_ ⟨rfl, rfl⟩))
    go_ret2
    refine ⟨⟨rowsT f m (at_ + 4) S, true, _, 1, by rw [HRT.out]; rfl, ?_, by rw [HRT.out]; exact Nat.le_refl _, by decide, by rw [HRT.out]; show 1 ≤ 65535; omega, fun _ => ⟨HOK.out, rfl⟩, fun hx => (by cases hx)⟩, blw⟩
    rw [HRT.out]
    have e : encRs [⟨f, f + m - 1, at_ + 4, S, true⟩] = [.int .i64 (f : Nat), .int .i64 ((f : Int) + (m : Int) - 1), .int .i64 ((at_ : Int) + 4), .int .i64 (S : Nat), .int .i64 (S : Nat)] := by rw [HL1.out]; rfl
    rw [e]
    exact hasN_alloc w _

def PartsP (bs : List UInt8) (n glyphs size : Nat) (rs : List RP) (okb : Bool) : Prop :=
  (okb = true → LkRows bs glyphs size rs ∧ ∀ r ∈ rs, r.own = true → fitZ n r) ∧ (okb = false → ∀ rs', ¬ LkOk bs glyphs size rs')
theorem fitZ_iff (n : Nat) (r : RP) (hs : 1 ≤ r.size) (hf : r.first ≤ r.last) : fitZ n r ↔ r.at_ ≤ n ∧ (r.last - r.first + 1) * r.size ≤ n - r.at_ := by
  unfold fitZ
  rw [show (r.last : Int) - (r.first : Int) + 1 = ((r.last - r.first + 1 : Nat) : Int) by omega]
  exact fitK2 n _ _ _ hs
theorem fitR_fitZ {bs : List UInt8} {ps : List PartL} {r : RP} (hs : 1 ≤ r.size) (h : fitR bs ps r) (ho : r.own = true) : fitZ bs.length r := by
  have h1 := h.1.1
  have h2 := h.2 ho
  have hle : r.size ≤ (r.last - r.first + 1) * r.size := Nat.le_mul_of_pos_left _ (by omega)
  exact (fitZ_iff _ _ hs (by omega)).2 ⟨by omega, by omega⟩
theorem LkOk.fits {bs : List UInt8} {glyphs size : Nat} {rs : List RP} (h : LkOk bs glyphs size rs) (hg : glyphs ≤ 65535) (hs : size = 2 ∨ size = 4) {r : RP} (hr : r ∈ rs) (ho : r.own = true) : fitZ bs.length r := by
  obtain ⟨i, hi, rfl⟩ := List.getElem_of_mem hr
  have := (h.rows.each hg hs).2 _ (List.getElem_mem hi)
  exact fitR_fitZ (by omega) (h.ok i _ (List.getElem?_eq_getElem hi)) ho
theorem trimZ_lk (bs : List UInt8) (at_ S : Nat) : TrimZ bs at_ S ↔ at_ + 4 ≤ bs.length ∧ num bs at_ 2 + num bs (at_ + 2) 2 ≤ 65536 ∧ okR bs (rowsT (num bs at_ 2) (num bs (at_ + 2) 2) (at_ + 4) S) := by
  unfold TrimZ
  constructor
  · rintro ⟨h1, h2, h3⟩; exact ⟨h1, h2, (ok_rowsT _ _ _ _ _ h1).2 h3⟩
  · rintro ⟨h1, h2, h3⟩; exact ⟨h1, h2, (ok_rowsT _ _ _ _ _ h1).1 h3⟩
theorem trimZ_fits {bs : List UInt8} {at_ S : Nat} (hS : 1 ≤ S) (h : TrimZ bs at_ S) : ∀ r ∈ rowsT (num bs at_ 2) (num bs (at_ + 2) 2) (at_ + 4) S, r.own = true → fitZ bs.length r := by
  obtain ⟨h1, h2, h3⟩ := (trimZ_lk bs at_ S).1 h
  intro r hr ho
  obtain ⟨i, hi, rfl⟩ := List.getElem_of_mem hr
  have hs : 1 ≤ ((rowsT (num bs at_ 2) (num bs (at_ + 2) 2) (at_ + 4) S)[i]).size := by
    have := List.getElem_mem hi
    generalize (rowsT (num bs at_ 2) (num bs (at_ + 2) 2) (at_ + 4) S)[i] = x at *
    unfold rowsT at this
    split at this
    · cases this
    · simp at this; subst this; exact hS
  exact fitR_fitZ hs (h3 i _ (List.getElem?_eq_getElem hi)) ho
theorem u_fmt (a : Option Addr) (n c : Nat) (bs : List UInt8) (y : Int) (w : World) (h : Has w a (bytesV bs)) (hl : bs.length = n) (hn : n ≤ maxLen) (hy : (if 2 ≤ n then ((num bs 0 2 : Nat) : Int) else -1) = y) :
    Calls Try.prog 70 #[.slice a n c, .int .i64 0, .int .i64 2] w fun e w' => e = .returned (.int .i64 y) ∧ w = w' := by
  refine (u2_any a n c 0 0 rfl bs w h hl hn (by omega)).mono ?_
  rintro e w' ⟨he, hw⟩
  rw [Nat.zero_add, hy] at he
  exact ⟨he, hw⟩
set_option maxRecDepth 100000 in
set_option maxHeartbeats 3200000 in
theorem partsX (a : Option Addr) (n c : Nat) (bs : List UInt8) (glyphs size : Nat) (zg zs : Int) (hzg : zg = (glyphs : Nat)) (hzs : zs = (size : Nat)) (hg1 : 1 ≤ glyphs) (hg2 : glyphs ≤ 65535) (hS : size = 2 ∨ size = 4) (w : World) (h : Has w a (bytesV bs)) (hl : bs.length = n) (hn : n ≤ c) (hc : c ≤ maxLen) (h20 : n ≤ 4000) (h0 : ¬ (2 ≤ n ∧ (num bs 0 2 = 0 ∨ num bs 0 2 = 2 ∨ num bs 0 2 = 4 ∨ num bs 0 2 = 6 ∨ num bs 0 2 = 8 ∨ num bs 0 2 = 10))) :
    Calls Try.prog 136 #[.slice a n c, .int .i64 zg, .int .i64 zs] w (PartsRes (PartsP bs n glyphs size) w) := by
  have hAC := allocC
  have hAF := allocF
  subst hzg hzs
  have hnm : n ≤ maxLen := Nat.le_trans hn hc
  have HH := Lib.hid h
  have HL := Lib.hid hl
  obtain ⟨y, hy⟩ : ∃ y : Int, (if 2 ≤ n then ((num bs 0 2 : Nat) : Int) else -1) = y := ⟨_, rfl⟩
  have hy2 : y ≠ 0 ∧ y ≠ 2 ∧ y ≠ 4 ∧ y ≠ 6 ∧ y ≠ 8 ∧ y ≠ 10 := by
    rw [← hy]
    split <;> omega
  obtain ⟨y0, y2, y4, y6, y8, y10⟩ := hy2
  have HU := Lib.hid (fun W hw => u_fmt a n c bs y W hw HL.out hnm hy)
  have e0 : (y == 0) = false := by rw [beq_eq_false_iff_ne]; exact y0
  have e2 : (y == 2) = false := by rw [beq_eq_false_iff_ne]; exact y2
  have e4 : (y == 4) = false := by rw [beq_eq_false_iff_ne]; exact y4
  have e6 : (y == 6) = false := by rw [beq_eq_false_iff_ne]; exact y6
  have e8 : (y == 8) = false := by rw [beq_eq_false_iff_ne]; exact y8
  have e10 : (y == 10) = false := by rw [beq_eq_false_iff_ne]; exact y10
  have HNO := Lib.hid (show ∀ rs, ¬ LkOk bs glyphs size rs from fun rs hx => h0 (by cases hx.rows <;> omega))
  clear h hl hy h0
  go_enter Try.func136, Try.ntmps136
  go_wp2_with (first | (go_at_call 70; (with_reducible refine (HU.out _ HH.out).mono ?_); rintro e w_ ⟨rfl, rfl⟩))
  go_ret2
  exact ⟨⟨[], false, none, 0, rfl, hasN_nil, Nat.zero_le _, Nat.zero_le _, Nat.zero_le _, fun hx => (by cases hx), fun _ => HNO.out⟩, Below.refl _ _⟩
set_option maxRecDepth 100000 in
set_option maxHeartbeats 3200000 in
theorem parts0 (a : Option Addr) (n c : Nat) (bs : List UInt8) (glyphs size : Nat) (zg zs : Int) (hzg : zg = (glyphs : Nat)) (hzs : zs = (size : Nat)) (hg1 : 1 ≤ glyphs) (hg2 : glyphs ≤ 65535) (hS : size = 2 ∨ size = 4) (w : World) (h : Has w a (bytesV bs)) (hl : bs.length = n) (hn : n ≤ c) (hc : c ≤ maxLen) (h20 : n ≤ 4000) (h2 : 2 ≤ n) (h0 : num bs 0 2 = 0) :
    Calls Try.prog 136 #[.slice a n c, .int .i64 zg, .int .i64 zs] w (PartsRes (PartsP bs n glyphs size) w) := by
  have hAC := allocC
  have hAF := allocF
  subst hzg hzs
  have hnm : n ≤ maxLen := Nat.le_trans hn hc
  have HH := Lib.hid h
  have HL := Lib.hid hl
  have HU := Lib.hid (fun W hw => u_fmt a n c bs 0 W hw HL.out hnm (by rw [if_pos h2, h0]; rfl))
  have hk := fitK2 n 2 glyphs size (by omega)
  obtain ⟨okb, hokb⟩ : ∃ okb : Bool, okb = true ↔ glyphs * size ≤ n - 2 := ⟨decide (glyphs * size ≤ n - 2), by simp⟩
  have HRR := Lib.hid (fun W => rref_any n 2 (glyphs : Int) (size : Int) okb (by rw [hokb]; exact ⟨fun hx => hk.2 ⟨h2, hx⟩, fun hx => (hk.1 hx).2⟩) W hnm (by omega) (by omega) (by omega))
  have HOKR := Lib.hid (show okR bs [⟨0, glyphs - 1, 2, size, true⟩] ↔ glyphs * size ≤ n - 2 from by
    have := ok_rowsT bs 0 glyphs 2 size (by omega)
    unfold rowsT at this
    rw [if_neg (by omega), Nat.zero_add, hl] at this
    exact this)
  have HP := Lib.hid (show PartsP bs n glyphs size [⟨0, glyphs - 1, 2, size, true⟩] okb from by
    refine ⟨fun hx => ⟨.all (by omega) h0, fun r hr ho => ?_⟩, fun hx rs' hr' => ?_⟩
    · have hok := HOKR.out.2 (hokb.1 hx)
      simp at hr
      subst hr
      have := fitR_fitZ (by show 1 ≤ size; omega) (hok 0 _ rfl) rfl
      rw [hl] at this
      exact this
    · have e := hr'.rows.det (.all (by omega) h0)
      subst e
      have := hokb.2 (HOKR.out.1 hr'.ok)
      rw [hx] at this
      cases this)
  have HL1 := Lib.hid (show (glyphs : Int) - 1 = ((glyphs - 1 : Nat) : Int) by omega)
  clear h hl hk hokb
  go_enter Try.func136, Try.ntmps136
  go_wp2_with (first | (go_at_call 70; (with_reducible refine (HU.out _ HH.out).mono ?_); rintro e w_ ⟨rfl, rfl⟩) | (go_at_call 97; refine (HRR.out _).mono ?_; rintro e w_ ⟨rfl, rfl⟩))
  go_ret2
  refine ⟨⟨[⟨0, glyphs - 1, 2, size, true⟩], okb, _, 1, rfl, ?_, Nat.le_refl _, by decide, by show 1 ≤ 65535; omega, HP.out⟩, blw⟩
  have e : encRs [⟨0, glyphs - 1, 2, size, true⟩] = [.int .i64 0, .int .i64 ((glyphs : Int) - 1), .int .i64 2, .int .i64 (size : Nat), .int .i64 (size : Nat)] := by rw [HL1.out]; rfl
  rw [e]
  exact hasN_alloc w _
set_option maxRecDepth 100000 in
set_option maxHeartbeats 3200000 in
theorem parts2 (a : Option Addr) (n c : Nat) (bs : List UInt8) (glyphs size : Nat) (zg zs : Int) (hzg : zg = (glyphs : Nat)) (hzs : zs = (size : Nat)) (hg1 : 1 ≤ glyphs) (hg2 : glyphs ≤ 65535) (hS : size = 2 ∨ size = 4) (w : World) (h : Has w a (bytesV bs)) (hl : bs.length = n) (hn : n ≤ c) (hc : c ≤ maxLen) (h20 : n ≤ 4000) (h2 : 2 ≤ n) (h0 : num bs 0 2 = 2) :
    Calls Try.prog 136 #[.slice a n c, .int .i64 zg, .int .i64 zs] w (PartsRes (PartsP bs n glyphs size) w) := by
  have hAC := allocC
  have hAF := allocF
  subst hzg hzs
  have hnm : n ≤ maxLen := Nat.le_trans hn hc
  have HH := Lib.hid h
  have HL := Lib.hid hl
  have HU := Lib.hid (fun W hw => u_fmt a n c bs 2 W hw HL.out hnm (by rw [if_pos h2, h0]; rfl))
  have HC := Lib.hid (segs_false a n c bs size (size : Int) rfl hS w h hl hn hc h20)
  have HPP := Lib.hid (show ∀ (rs : List RP) (okb : Bool), ((okb = true → skOk bs 2 (4 + size) ∧ rs = rows2 bs size (skM bs 2 2)) ∧ (okb = false → ¬ skOk bs 2 (4 + size))) → PartsP bs n glyphs size rs okb from fun rs okb hP => by
    refine ⟨fun hx => ?_, fun hx rs' hr' => ?_⟩
    · obtain ⟨h1, rfl⟩ := hP.1 hx
      exact ⟨.two (by omega) h0 h1, fun r hr ho => by obtain ⟨i, _, rfl⟩ := List.mem_map.1 hr; cases ho⟩
    · cases hr'.rows with
      | two _ _ h1 => exact hP.2 hx h1
      | _ => omega)
  clear h hl
  go_enter Try.func136, Try.ntmps136
  go_wp2_with (first | (go_at_call 70; (with_reducible refine (HU.out _ HH.out).mono ?_); rintro e w_ ⟨rfl, rfl⟩))
  refine HC.out.mono ?_
  rintro e w1 ⟨⟨rs, okb, a1, c1, rfl, hh1, q1, q2, q3, hP⟩, hb1⟩
  have HP := Lib.hid (show PartsP bs n glyphs size rs okb from HPP.out rs okb hP)
  have HH1 := Lib.hid hh1
  have HB1 := Lib.hid hb1
  clear hP hh1 hb1 HC HPP
  go_wp2_with fail
  go_ret2
  exact ⟨⟨rs, okb, a1, c1, rfl, HH1.out, q1, q2, q3, HP.out⟩, HB1.out⟩
set_option maxRecDepth 100000 in
set_option maxHeartbeats 3200000 in
theorem parts4 (a : Option Addr) (n c : Nat) (bs : List UInt8) (glyphs size : Nat) (zg zs : Int) (hzg : zg = (glyphs : Nat)) (hzs : zs = (size : Nat)) (hg1 : 1 ≤ glyphs) (hg2 : glyphs ≤ 65535) (hS : size = 2 ∨ size = 4) (w : World) (h : Has w a (bytesV bs)) (hl : bs.length = n) (hn : n ≤ c) (hc : c ≤ maxLen) (h20 : n ≤ 4000) (h2 : 2 ≤ n) (h0 : num bs 0 2 = 4) :
    Calls Try.prog 136 #[.slice a n c, .int .i64 zg, .int .i64 zs] w (PartsRes (PartsP bs n glyphs size) w) := by
  have hAC := allocC
  have hAF := allocF
  subst hzg hzs
  have hnm : n ≤ maxLen := Nat.le_trans hn hc
  have HH := Lib.hid h
  have HL := Lib.hid hl
  have HU := Lib.hid (fun W hw => u_fmt a n c bs 4 W hw HL.out hnm (by rw [if_pos h2, h0]; rfl))
  have HC := Lib.hid (segs_true a n c bs size (size : Int) rfl hS w h hl hn hc h20)
  have HPP := Lib.hid (show ∀ (rs : List RP) (okb : Bool), ((okb = true → skOk bs 2 6 ∧ rs = rows4 bs size (skM bs 2 2) ∧ ∀ r ∈ rs, fitZ n r) ∧ (okb = false → ¬ skOk bs 2 6 ∨ ∃ r ∈ rows4 bs size (skM bs 2 2), ¬ fitZ n r)) → PartsP bs n glyphs size rs okb from fun rs okb hP => by
    refine ⟨fun hx => ?_, fun hx rs' hr' => ?_⟩
    · obtain ⟨h1, rfl, h3⟩ := hP.1 hx
      exact ⟨.four (by omega) h0 h1, fun r hr _ => h3 r hr⟩
    · rcases hP.2 hx with hx | ⟨r, hr, hz⟩
      · cases hr'.rows with
        | four _ _ h1 => exact hx h1
        | _ => omega
      · have hfz := fun hm ho => hr'.fits hg2 hS (r := r) hm ho
        rw [hl] at hfz
        cases hr'.rows with
        | four _ _ h1 => exact hz (hfz hr (by obtain ⟨i, _, rfl⟩ := List.mem_map.1 hr; rfl))
        | _ => omega)
  clear h hl
  go_enter Try.func136, Try.ntmps136
  go_wp2_with (first | (go_at_call 70; (with_reducible refine (HU.out _ HH.out).mono ?_); rintro e w_ ⟨rfl, rfl⟩))
  refine HC.out.mono ?_
  rintro e w1 ⟨⟨rs, okb, a1, c1, rfl, hh1, q1, q2, q3, hP⟩, hb1⟩
  have HP := Lib.hid (show PartsP bs n glyphs size rs okb from HPP.out rs okb hP)
  have HH1 := Lib.hid hh1
  have HB1 := Lib.hid hb1
  clear hP hh1 hb1 HC HPP
  go_wp2_with fail
  go_ret2
  exact ⟨⟨rs, okb, a1, c1, rfl, HH1.out, q1, q2, q3, HP.out⟩, HB1.out⟩
set_option maxRecDepth 100000 in
set_option maxHeartbeats 3200000 in
theorem parts8 (a : Option Addr) (n c : Nat) (bs : List UInt8) (glyphs size : Nat) (zg zs : Int) (hzg : zg = (glyphs : Nat)) (hzs : zs = (size : Nat)) (hg1 : 1 ≤ glyphs) (hg2 : glyphs ≤ 65535) (hS : size = 2 ∨ size = 4) (w : World) (h : Has w a (bytesV bs)) (hl : bs.length = n) (hn : n ≤ c) (hc : c ≤ maxLen) (h20 : n ≤ 4000) (h2 : 2 ≤ n) (h0 : num bs 0 2 = 8) :
    Calls Try.prog 136 #[.slice a n c, .int .i64 zg, .int .i64 zs] w (PartsRes (PartsP bs n glyphs size) w) := by
  have hAC := allocC
  have hAF := allocF
  subst hzg hzs
  have hnm : n ≤ maxLen := Nat.le_trans hn hc
  have HH := Lib.hid h
  have HL := Lib.hid hl
  have HU := Lib.hid (fun W hw => u_fmt a n c bs 8 W hw HL.out hnm (by rw [if_pos h2, h0]; rfl))
  have HC := Lib.hid (trimmed_any a n c bs 2 size 2 (size : Int) rfl rfl (by omega) (by omega) w h hl hn hc h20)
  have HPP := Lib.hid (show ∀ (rs : List RP) (okb : Bool), ((okb = true → TrimZ bs 2 size ∧ rs = rowsT (num bs 2 2) (num bs 4 2) 6 size) ∧ (okb = false → ¬ TrimZ bs 2 size)) → PartsP bs n glyphs size rs okb from fun rs okb hP => by
    refine ⟨fun hx => ?_, fun hx rs' hr' => ?_⟩
    · obtain ⟨h1, rfl⟩ := hP.1 hx
      have hz := trimZ_fits (by omega) h1
      rw [hl] at hz
      obtain ⟨k1, k2, _⟩ := (trimZ_lk bs 2 size).1 h1
      exact ⟨.eight k1 h0 k2, hz⟩
    · have hok := hr'.ok
      cases hr'.rows with
      | eight k1 _ k2 => exact hP.2 hx ((trimZ_lk bs 2 size).2 ⟨k1, k2, hok⟩)
      | _ => omega)
  clear h hl
  go_enter Try.func136, Try.ntmps136
  go_wp2_with (first | (go_at_call 70; (with_reducible refine (HU.out _ HH.out).mono ?_); rintro e w_ ⟨rfl, rfl⟩))
  refine HC.out.mono ?_
  rintro e w1 ⟨⟨rs, okb, a1, c1, rfl, hh1, q1, q2, q3, hP⟩, hb1⟩
  have HP := Lib.hid (show PartsP bs n glyphs size rs okb from HPP.out rs okb hP)
  have HH1 := Lib.hid hh1
  have HB1 := Lib.hid hb1
  clear hP hh1 hb1 HC HPP
  go_wp2_with fail
  go_ret2
  exact ⟨⟨rs, okb, a1, c1, rfl, HH1.out, q1, q2, q3, HP.out⟩, HB1.out⟩

set_option maxRecDepth 100000 in
set_option maxHeartbeats 3200000 in
theorem parts10 (a : Option Addr) (n c : Nat) (bs : List UInt8) (glyphs size : Nat) (zg zs : Int) (hzg : zg = (glyphs : Nat)) (hzs : zs = (size : Nat)) (hg1 : 1 ≤ glyphs) (hg2 : glyphs ≤ 65535) (hS : size = 2 ∨ size = 4) (w : World) (h : Has w a (bytesV bs)) (hl : bs.length = n) (hn : n ≤ c) (hc : c ≤ maxLen) (h20 : n ≤ 4000) (h2 : 2 ≤ n) (h0 : num bs 0 2 = 10) :
    Calls Try.prog 136 #[.slice a n c, .int .i64 zg, .int .i64 zs] w (PartsRes (PartsP bs n glyphs size) w) := by
  have hAC := allocC
  have hAF := allocF
  subst hzg hzs
  have hnm : n ≤ maxLen := Nat.le_trans hn hc
  have HH := Lib.hid h
  have HL := Lib.hid hl
  have HU := Lib.hid (fun W hw => u_fmt a n c bs 10 W hw HL.out hnm (by rw [if_pos h2, h0]; rfl))
  have hUU := fun W hw => u2_any a n c 2 2 rfl bs W hw HL.out hnm (by omega)
  by_cases hu : 4 ≤ n ∧ (num bs 2 2 = 1 ∨ num bs 2 2 = 2 ∨ num bs 2 2 = 4)
  case neg =>
    obtain ⟨y, hy⟩ : ∃ y : Int, (if 2 + 2 ≤ n then ((num bs 2 2 : Nat) : Int) else -1) = y := ⟨_, rfl⟩
    have hyy : y ≠ 1 ∧ y ≠ 2 ∧ y ≠ 4 := by
      rw [← hy]
      split <;> omega
    obtain ⟨y1, y2, y4⟩ := hyy
    rw [hy] at hUU
    have HUU := Lib.hid hUU
    have n1 : (y != 1) = true := by rw [bne_iff_ne]; exact y1
    have n2 : (y != 2) = true := by rw [bne_iff_ne]; exact y2
    have n4 : (y != 4) = true := by rw [bne_iff_ne]; exact y4
    have HNO := Lib.hid (show ∀ rs, ¬ LkOk bs glyphs size rs from fun rs hx => hu (by cases hx.rows <;> omega))
    clear h hl hy hu hUU
    go_enter Try.func136, Try.ntmps136
    go_wp2_with (first | (go_at_call 70; (with_reducible refine (HU.out _ HH.out).mono ?_); rintro e w_ ⟨rfl, rfl⟩) | (go_at_call 70; (with_reducible refine (HUU.out _ HH.out).mono ?_); rintro e w_ ⟨rfl, rfl⟩))
    go_ret2
    exact ⟨⟨[], false, none, 0, rfl, hasN_nil, Nat.zero_le _, Nat.zero_le _, Nat.zero_le _, fun hx => (by cases hx), fun _ => HNO.out⟩, Below.refl _ _⟩
  obtain ⟨h4, hu⟩ := hu
  rw [if_pos (by omega)] at hUU
  have HPP := Lib.hid (show ∀ (u : Nat), num bs 2 2 = u → (u = 1 ∨ u = 2 ∨ u = 4) → ∀ (rs : List RP) (okb : Bool), ((okb = true → TrimZ bs 4 u ∧ rs = rowsT (num bs 4 2) (num bs 6 2) 8 u) ∧ (okb = false → ¬ TrimZ bs 4 u)) → PartsP bs n glyphs size rs okb from fun u hu hu1 rs okb hP => by
    refine ⟨fun hx => ?_, fun hx rs' hr' => ?_⟩
    · obtain ⟨h1, rfl⟩ := hP.1 hx
      have hz := trimZ_fits (by omega) h1
      rw [hl] at hz
      obtain ⟨k1, k2, _⟩ := (trimZ_lk bs 4 u).1 h1
      subst hu
      exact ⟨.ten k1 h0 hu1 k2, hz⟩
    · have hok := hr'.ok
      subst hu
      cases hr'.rows with
      | ten k1 _ _ k2 => exact hP.2 hx ((trimZ_lk bs 4 _).2 ⟨k1, k2, hok⟩)
      | _ => omega)
  obtain hu | hu | hu := hu
  · rw [hu] at hUU
    have HUU := Lib.hid (show ∀ W, Has W a (bytesV bs) → Calls Try.prog 70 #[.slice a n c, .int .i64 2, .int .i64 2] W fun e w' => e = .returned (.int .i64 1) ∧ W = w' from hUU)
    have HC := Lib.hid (trimmed_any a n c bs 4 1 4 1 rfl rfl (by omega) (by omega) w h hl hn hc h20)
    have HPQ := Lib.hid (HPP.out 1 hu (by omega))
    clear h hl hu hUU HPP
    go_enter Try.func136, Try.ntmps136
    go_wp2_with (first | (go_at_call 70; (with_reducible refine (HU.out _ HH.out).mono ?_); rintro e w_ ⟨rfl, rfl⟩) | (go_at_call 70; (with_reducible refine (HUU.out _ HH.out).mono ?_); rintro e w_ ⟨rfl, rfl⟩))
    refine HC.out.mono ?_
    rintro e w1 ⟨⟨rs, okb, a1, c1, rfl, hh1, q1, q2, q3, hP⟩, hb1⟩
    have HP := Lib.hid (show PartsP bs n glyphs size rs okb from HPQ.out rs okb hP)
    have HH1 := Lib.hid hh1
    have HB1 := Lib.hid hb1
    clear hP hh1 hb1 HC HPQ
    go_wp2_with fail
    go_ret2
    exact ⟨⟨rs, okb, a1, c1, rfl, HH1.out, q1, q2, q3, HP.out⟩, HB1.out⟩
  · rw [hu] at hUU
    have HUU := Lib.hid (show ∀ W, Has W a (bytesV bs) → Calls Try.prog 70 #[.slice a n c, .int .i64 2, .int .i64 2] W fun e w' => e = .returned (.int .i64 2) ∧ W = w' from hUU)
    have HC := Lib.hid (trimmed_any a n c bs 4 2 4 2 rfl rfl (by omega) (by omega) w h hl hn hc h20)
    have HPQ := Lib.hid (HPP.out 2 hu (by omega))
    clear h hl hu hUU HPP
    go_enter Try.func136, Try.ntmps136
    go_wp2_with (first | (go_at_call 70; (with_reducible refine (HU.out _ HH.out).mono ?_); rintro e w_ ⟨rfl, rfl⟩) | (go_at_call 70; (with_reducible refine (HUU.out _ HH.out).mono ?_); rintro e w_ ⟨rfl, rfl⟩))
    refine HC.out.mono ?_
    rintro e w1 ⟨⟨rs, okb, a1, c1, rfl, hh1, q1, q2, q3, hP⟩, hb1⟩
    have HP := Lib.hid (show PartsP bs n glyphs size rs okb from HPQ.out rs okb hP)
    have HH1 := Lib.hid hh1
    have HB1 := Lib.hid hb1
    clear hP hh1 hb1 HC HPQ
    go_wp2_with fail
    go_ret2
    exact ⟨⟨rs, okb, a1, c1, rfl, HH1.out, q1, q2, q3, HP.out⟩, HB1.out⟩
  · rw [hu] at hUU
    have HUU := Lib.hid (show ∀ W, Has W a (bytesV bs) → Calls Try.prog 70 #[.slice a n c, .int .i64 2, .int .i64 2] W fun e w' => e = .returned (.int .i64 4) ∧ W = w' from hUU)
    have HC := Lib.hid (trimmed_any a n c bs 4 4 4 4 rfl rfl (by omega) (by omega) w h hl hn hc h20)
    have HPQ := Lib.hid (HPP.out 4 hu (by omega))
    clear h hl hu hUU HPP
    go_enter Try.func136, Try.ntmps136
    go_wp2_with (first | (go_at_call 70; (with_reducible refine (HU.out _ HH.out).mono ?_); rintro e w_ ⟨rfl, rfl⟩) | (go_at_call 70; (with_reducible refine (HUU.out _ HH.out).mono ?_); rintro e w_ ⟨rfl, rfl⟩))
    refine HC.out.mono ?_
    rintro e w1 ⟨⟨rs, okb, a1, c1, rfl, hh1, q1, q2, q3, hP⟩, hb1⟩
    have HP := Lib.hid (show PartsP bs n glyphs size rs okb from HPQ.out rs okb hP)
    have HH1 := Lib.hid hh1
    have HB1 := Lib.hid hb1
    clear hP hh1 hb1 HC HPQ
    go_wp2_with fail
    go_ret2
    exact ⟨⟨rs, okb, a1, c1, rfl, HH1.out, q1, q2, q3, HP.out⟩, HB1.out⟩
set_option maxRecDepth 100000 in
set_option maxHeartbeats 3200000 in
theorem parts6 (a : Option Addr) (n c : Nat) (bs : List UInt8) (glyphs size : Nat) (zg zs : Int) (hzg : zg = (glyphs : Nat)) (hzs : zs = (size : Nat)) (hg1 : 1 ≤ glyphs) (hg2 : glyphs ≤ 65535) (hS : size = 2 ∨ size = 4) (w : World) (h : Has w a (bytesV bs)) (hl : bs.length = n) (hn : n ≤ c) (hc : c ≤ maxLen) (h20 : n ≤ 4000) (h2 : 2 ≤ n) (h0 : num bs 0 2 = 6) :
    Calls Try.prog 136 #[.slice a n c, .int .i64 zg, .int .i64 zs] w (PartsRes (PartsP bs n glyphs size) w) := by
  have hAC := allocC
  have hAF := allocF
  subst hzg hzs
  have hnm : n ≤ maxLen := Nat.le_trans hn hc
  have HH := Lib.hid h
  have HL := Lib.hid hl
  have HU := Lib.hid (fun W hw => u_fmt a n c bs 6 W hw HL.out hnm (by rw [if_pos h2, h0]; rfl))
  have HR := Lib.hid (sref_z a n c bs (2 + size) 1 (2 + (size : Int)) 1 (by omega) rfl w h hl hn hc h20 (by omega) (by omega) (by decide) (by omega))
  have HNP := Lib.hid (show ¬ skOk bs 2 (2 + size) → ∀ rs', ¬ LkOk bs glyphs size rs' from fun hno rs' hr' => by
    cases hr'.rows with
    | six _ _ h1 => exact hno h1
    | _ => omega)
  have HYP := Lib.hid (show skOk bs 2 (2 + size) → PartsP bs n glyphs size (rows6 bs size (skM bs 2 1)) true from fun hok => ⟨fun _ => ⟨.six (by omega) h0 hok, fun r hr ho => by obtain ⟨i, _, rfl⟩ := List.mem_map.1 hr; cases ho⟩, fun hx => (by cases hx)⟩)
  clear h hl
  go_enter Try.func136, Try.ntmps136
  go_wp2_with (first | (go_at_call 70; (with_reducible refine (HU.out _ HH.out).mono ?_); rintro e w_ ⟨rfl, rfl⟩))
  refine HR.out.mono ?_
  rintro e w2 ⟨(⟨a2, c2, hok, rfl, hrow, q1, q2⟩ | ⟨hno, rfl⟩), hb2⟩
  case inr =>
    have HB2 := Lib.hid hb2
    have HNO := Lib.hid (HNP.out hno)
    clear hb2 hno HR
    go_wp2_with fail
    go_loopw [11, 12] (fun out i wr => (∃ x y, out = .slice x 0 y ∧ y ≤ maxLen) ∧ i = .int .i64 0 ∧ Below w2.heap.size w2 wr) (fun _ _ _ => 0)
    case atStart => exact ⟨⟨_, _, rfl, Nat.zero_le _⟩, rfl, blw⟩
    case round =>
      obtain ⟨⟨x, y, rfl, hy⟩, rfl, hbr⟩ := hrel
      have HBR := Lib.hid (HB2.out.trans (hbr.mono HB2.out.size))
      clear hbr
      go_wp2_with fail
      go_ret2
      exact ⟨⟨[], false, _, _, rfl, hasN_nil, Nat.zero_le _, hy, Nat.zero_le _, fun hx => (by cases hx), fun _ => HNO.out⟩, HBR.out⟩
  have HYY := Lib.hid (HYP.out hok)
  have HB2 := Lib.hid hb2
  have HROW := Lib.hid hrow
  have hMN : skM bs 2 1 ≤ skN bs 2 := by unfold skM; split <;> omega
  have hM7 : skM bs 2 1 ≤ 65535 := Nat.le_trans hMN (num2_lt _ _)
  have hfit := hok.rows
  have hsz := hok.size
  rw [HL.out] at hfit
  have HRS := Lib.hid (show ∀ j, j < skM bs 2 1 → (rows6 bs size (skM bs 2 1))[j]? = some ⟨num bs (12 + j * skS bs 2) 2, num bs (12 + j * skS bs 2) 2, 12 + j * skS bs 2 + 2, size, false⟩ from fun j hj => by simp [rows6, List.getElem?_map, List.getElem?_range hj])
  have HLEN := Lib.hid (show (rows6 bs size (skM bs 2 1)).length = skM bs 2 1 from by simp [rows6])
  clear hok hb2 hrow HR HYP HNP
  generalize rows6 bs size (skM bs 2 1) = rs at *
  generalize skM bs 2 1 = M at *
  generalize skS bs 2 = q at *
  generalize skN bs 2 = N at *
  have HFIT := Lib.hid (show ∀ j, j < M → 12 + j * q + q ≤ n from fun j hj => by
    have : j * q + q ≤ N * q := by rw [← Nat.succ_mul]; exact Nat.mul_le_mul_right _ (by omega)
    omega)
  clear hfit hMN
  go_wp2_with fail
  go_loopw [11, 12] (fun out i wr => SgRel w2 rs (.bool true) out i wr) (fun _ i _ => M - (Go.RowKit.intOf i).toNat)
  case atStart => exact ⟨rfl, 0, _, _, Nat.zero_le _, rfl, rfl, World.ownsRow_lit w2 #[] 0 (Nat.le_refl _) (by decide) rfl, Nat.le_refl _, Nat.zero_le _, blw⟩
  case round =>
    obtain ⟨_, k, a3, c3, hk, rfl, rfl, hown, o1, o2, hbr⟩ := hrel
    rw [HLEN.out] at hk
    have HOW := Lib.hid hown
    have HBR := Lib.hid hbr
    have HBX := Lib.hid (HB2.out.trans (hbr.mono HB2.out.size))
    clear hown hbr
    by_cases hlt : k < M
    · have hp := HFIT.out k hlt
      have HRK := Lib.hid (HRS.out k hlt)
      have HLT := Lib.hid hlt
      have hkp : (intsV (placesV 2 q M))[k]? = some (.int .i64 ((12 + k * q : Nat) : Int)) := by simp [intsV, placesV, List.getElem?_map, List.getElem?_range hlt]
      obtain ⟨ar, har, hcr⟩ := (HROW.out.below HBR.out) k _ hkp
      have HU0 := Lib.hid (fun W hw => u2_z a n c (12 + k * q) (((12 + k * q : Nat) : Int)) rfl bs W hw HL.out (by omega) (Nat.le_trans hn hc))
      have HHR := Lib.hid (HH.out.below HBX.out)
      have hl1 := num2_lt bs (12 + k * q)
      generalize num bs (12 + k * q) 2 = f1 at *
      generalize hpp : 12 + k * q = p at *
      subst har
      clear hpp hkp
      have hz2 : w2.heap.size ≤ wr.heap.size := HBR.out.size
      go_wp2_with (first | (go_at_call 70; (with_reducible refine (HU0.out _ HHR.out).mono ?_); rintro e w_ ⟨rfl, rfl⟩) | (at_builtin; refine wpAppL rfl _ _ 40 rfl w2.heap.size 222 (.agg #[.int .i64 0, .int .i64 0, .int .i64 0, .int .i64 0, .int .i64 0]) 5 40 Try.underlying40 rp_info rfl (by decide) _ k (encRs (rs.take k)) rfl (owns_below HOW.out (balloc (brefl _) _) (Nat.le_refl _)) ⟨_, 0, none⟩ 1 1 [.int .i64 (f1 : Nat), .int .i64 (f1 : Nat), .int .i64 ((p : Int) + 2), .int .i64 (size : Nat), .int .i64 0] rfl rfl (has_alloc _ _ _) (fun u hu => by simp at hu; rcases hu with rfl | rfl | rfl | rfl <;> rfl) (by unfold maxLen; omega) (by omega) (by simp; omega) ?_; intro a4 c4 w4 hown4 t41 t42 t43 hb4 hg4; have HO4 := Lib.hid hown4; have HB4 := Lib.hid hb4; have hz4 := hg4.size; clear hown4 hb4 hg4 t43; (try dsimp only [Act.put]); (try simp only [List.setIfInBounds_toArray, List.set_cons_succ, List.set_cons_zero])))
      rename World => w4
      have HT4 := Lib.hid (show encRs (rs.take k) ++ [.int .i64 (f1 : Nat), .int .i64 (f1 : Nat), .int .i64 ((p : Int) + 2), .int .i64 (size : Nat), .int .i64 0] = encRs (rs.take (k + 1)) from by rw [List.take_add_one, HRK.out]; show _ = encRs (_ ++ [_]); rw [← encRs_snoc]; simp [encR])
      have HB5 := Lib.hid (HBR.out.trans (((Below.refl w2.heap.size _).alloc (by omega) _).trans HB4.out))
      go_roundw
      case rel => exact ⟨rfl, k + 1, a4, c4, by rw [HLEN.out]; exact HLT.out, by go_num, rfl, by rw [← HT4.out]; exact HO4.out, t41, t42, HB5.out⟩
      case measure => simp [Go.RowKit.intOf]; have := HLT.out; omega
    · obtain rfl : k = M := by omega
      go_wp2_with fail
      go_ret2
      have ht := HOW.out
      rw [List.take_of_length_le (by rw [HLEN.out]; exact Nat.le_refl _)] at ht
      exact ⟨⟨rs, true, a3, c3, by rw [HLEN.out]; rfl, hasN_of_owns ht HB2.out.size, by rw [HLEN.out]; exact o1, o2, by rw [HLEN.out]; exact hM7, HYY.out⟩, HBX.out⟩
theorem parts_any (a : Option Addr) (n c : Nat) (bs : List UInt8) (glyphs size : Nat) (zg zs : Int) (hzg : zg = (glyphs : Nat)) (hzs : zs = (size : Nat)) (hg1 : 1 ≤ glyphs) (hg2 : glyphs ≤ 65535) (hS : size = 2 ∨ size = 4) (w : World) (h : Has w a (bytesV bs)) (hl : bs.length = n) (hn : n ≤ c) (hc : c ≤ maxLen) (h20 : n ≤ 4000) :
    Calls Try.prog 136 #[.slice a n c, .int .i64 zg, .int .i64 zs] w (PartsRes (PartsP bs n glyphs size) w) := by
  by_cases h2 : 2 ≤ n
  case neg => exact partsX a n c bs glyphs size zg zs hzg hzs hg1 hg2 hS w h hl hn hc h20 (fun hx => h2 hx.1)
  by_cases e0 : num bs 0 2 = 0
  · exact parts0 a n c bs glyphs size zg zs hzg hzs hg1 hg2 hS w h hl hn hc h20 h2 e0
  by_cases e2 : num bs 0 2 = 2
  · exact parts2 a n c bs glyphs size zg zs hzg hzs hg1 hg2 hS w h hl hn hc h20 h2 e2
  by_cases e4 : num bs 0 2 = 4
  · exact parts4 a n c bs glyphs size zg zs hzg hzs hg1 hg2 hS w h hl hn hc h20 h2 e4
  by_cases e6 : num bs 0 2 = 6
  · exact parts6 a n c bs glyphs size zg zs hzg hzs hg1 hg2 hS w h hl hn hc h20 h2 e6
  by_cases e8 : num bs 0 2 = 8
  · exact parts8 a n c bs glyphs size zg zs hzg hzs hg1 hg2 hS w h hl hn hc h20 h2 e8
  by_cases e10 : num bs 0 2 = 10
  · exact parts10 a n c bs glyphs size zg zs hzg hzs hg1 hg2 hS w h hl hn hc h20 h2 e10
  exact partsX a n c bs glyphs size zg zs hzg hzs hg1 hg2 hS w h hl hn hc h20 (fun hx => by omega)

theorem tabR_lasts (bs : List UInt8) (rs : List RP) : (tabR bs rs).1.map PartL.last = rs.map RP.last := by
  suffices h : ∀ (rs : List RP) (s : List PartL × List Nat), (rs.foldl (stepR bs) s).1.map PartL.last = s.1.map PartL.last ++ rs.map RP.last by simpa [tabR] using h rs ([], [])
  intro rs
  induction rs with
  | nil => intro s; simp
  | cons r rs ih => intro s; simp only [List.foldl_cons, ih, stepR, List.map_append, List.map_cons, List.map_nil, List.append_assoc, List.cons_append, List.nil_append]
def goodR (rs : List RP) (i : Nat) : Prop := ∀ r, rs[i]? = some r → r.first ≤ r.last ∧ ∀ q, 0 < i → rs[i - 1]? = some q → q.last < r.first
theorem canAdd_good (bs : List UInt8) (rs : List RP) (i : Nat) (r : RP) (hr : rs[i]? = some r) : CanAdd (tabR bs (rs.take i)).1 (r.first : Nat) (r.last : Nat) ↔ r.first ≤ r.last ∧ ∀ q, 0 < i → rs[i - 1]? = some q → q.last < r.first := by
  have hil := (List.getElem?_eq_some_iff.1 hr).1
  have hlen : (tabR bs (rs.take i)).1.length = i := by rw [tabR_len, List.length_take]; omega
  have hls := tabR_lasts bs (rs.take i)
  have hget : ∀ j, j < i → ((tabR bs (rs.take i)).1[j]?).map PartL.last = (rs[j]?).map RP.last := fun j hj => by
    rw [← List.getElem?_map, hls, List.getElem?_map, List.getElem?_take, if_pos hj]
  unfold CanAdd
  rw [hlen]
  constructor
  · rintro ⟨h1, h2⟩
    refine ⟨by omega, fun q hi hq => ?_⟩
    have hg := hget (i - 1) (by omega)
    rw [hq] at hg
    obtain ⟨p, hp⟩ : ∃ p, (tabR bs (rs.take i)).1[i - 1]? = some p := ⟨_, List.getElem?_eq_getElem (by omega)⟩
    have := h2 p hp
    rw [hp] at hg
    simp at hg
    omega
  · rintro ⟨h1, h2⟩
    refine ⟨by omega, fun p hp => ?_⟩
    have hpi := (List.getElem?_eq_some_iff.1 hp).1
    rw [hlen] at hpi
    have hg := hget (i - 1) (by omega)
    rw [hp] at hg
    obtain ⟨q, hq⟩ : ∃ q, rs[i - 1]? = some q := ⟨_, List.getElem?_eq_getElem (by omega)⟩
    have := h2 q (by omega) hq
    rw [hq] at hg
    simp at hg
    omega
theorem okR_good (bs : List UInt8) (rs : List RP) (hs : ∀ r ∈ rs, 1 ≤ r.size) : okR bs rs ↔ (∀ i, i < rs.length → goodR rs i) ∧ ∀ r ∈ rs, r.own = true → fitZ bs.length r := by
  constructor
  · intro h
    refine ⟨fun i _ r hr => (canAdd_good bs rs i r hr).1 (h i r hr).1, fun r hr ho => ?_⟩
    obtain ⟨i, hi, rfl⟩ := List.getElem_of_mem hr
    exact fitR_fitZ (hs _ hr) (h i _ (List.getElem?_eq_getElem hi)) ho
  · rintro ⟨h1, h2⟩ i r hr
    have hg := h1 i (List.getElem?_eq_some_iff.1 hr).1 r hr
    have hm := List.mem_of_getElem? hr
    refine ⟨(canAdd_good bs rs i r hr).2 hg, fun ho => ?_⟩
    have := (fitZ_iff _ _ (hs r hm) hg.1).1 (h2 r hm ho)
    omega
def RefReadIs (a : Option Addr) (n c : Nat) (bs : List UInt8) (glyphs size : Nat) (w : World) (e : Ending) (w' : World) : Prop :=
  ((∃ (rs : List RP) (a' : Option Addr) (c' : Nat), LkOk bs glyphs size rs ∧ e = .returned (.tuple #[.agg #[.slice a n c, .slice a' rs.length c'], .bool true]) ∧ Has w' a' (encRs rs) ∧ rs.length ≤ c' ∧ c' ≤ maxLen ∧ rs.length ≤ 65535) ∨
   ((∀ rs, ¬ LkOk bs glyphs size rs) ∧ e = .returned (.tuple #[.agg #[.slice none 0 0, .slice none 0 0], .bool false]))) ∧ Below w.heap.size w w'
def RefReadN (a : Option Addr) (n c : Nat) (bs : List UInt8) (glyphs size : Nat) (w : World) (e : Ending) (w' : World) : Prop :=
  ((∃ (rs : List RP) (a' : Option Addr) (c' : Nat), LkOk bs glyphs size rs ∧ e = .returned (.tuple #[.agg #[.slice a n c, .slice a' rs.length c'], .bool true]) ∧ HasN w.heap.size w' a' (encRs rs) ∧ rs.length ≤ c' ∧ c' ≤ maxLen ∧ rs.length ≤ 65535) ∨
   ((∀ rs, ¬ LkOk bs glyphs size rs) ∧ e = .returned (.tuple #[.agg #[.slice none 0 0, .slice none 0 0], .bool false]))) ∧ Below w.heap.size w w'
theorem add_next (p : Addr) (m : Nat) : (⟨(p.add m).block, (p.add m).off + 1, none⟩ : Addr) = p.add (m + 1) := by
  obtain ⟨b, o, s⟩ := p
  simp only [Addr.add]
  by_cases h : m = 0
  · subst h; simp
  · simp [h, Nat.add_assoc]
theorem has_set {w : World} {a : Option Addr} {xs : List Value} (h : Has w a xs) {g o : Nat} (hne : xs ≠ [] → ∀ p, a = some p → p.block ≠ g) (v : Value) : Has (w.setCell ⟨g, o, none⟩ v) a xs := by
  intro j u hu
  obtain ⟨p, hp, hc⟩ := h j u hu
  refine ⟨p, hp, ?_⟩
  rw [World.cell?_of_block (w := w) (set_heap_other v (by rw [add_block]; exact hne (by rintro rfl; simp at hu) p hp))]
  exact hc
theorem encRs_apart {w : World} {a : Option Addr} {rs : List RP} (h : Has w a (encRs rs)) {g : Nat} {v1 v2 : Value} {t : Nat} (hg : w.heap[g]? = some (.cells #[v1, v2] t (0, 0))) (h1 : ∀ z, v1 ≠ .int .i64 z) (h2 : ∀ z, v2 ≠ .int .i64 z) : encRs rs ≠ [] → ∀ p, a = some p → p.block ≠ g := by
  intro hne p hp hb
  obtain ⟨r, hr⟩ : ∃ r, rs[0]? = some r := by
    cases rs with
    | nil => exact absurd rfl hne
    | cons r rs => exact ⟨r, rfl⟩
  obtain ⟨q, hq, hc⟩ := h _ _ (encRs_get rs 0 r hr 1 (by omega))
  rw [hp] at hq
  cases hq
  have e : p.add (0 * 5 + 1) = ⟨g, p.off + 1, none⟩ := by rw [← hb]; simp [Addr.add]
  rw [e] at hc
  have hx := cell_of_heap hg (p.off + 1)
  rw [hx] at hc
  match hoff : p.off + 1, hc with
  | 0, hc => omega
  | 1, hc => simp at hc; exact h2 _ hc
  | n + 2, hc => simp at hc
set_option maxRecDepth 100000 in
set_option maxHeartbeats 3200000 in
theorem refRead_new (a : Option Addr) (n c : Nat) (bs : List UInt8) (glyphs size : Nat) (zg zs : Int) (hzg : zg = (glyphs : Nat)) (hzs : zs = (size : Nat)) (hg1 : 1 ≤ glyphs) (hg2 : glyphs ≤ 65535) (hS : size = 2 ∨ size = 4) (w : World) (h : Has w a (bytesV bs)) (hl : bs.length = n) (hn : n ≤ c) (hc : c ≤ maxLen) (h20 : n ≤ 4000) :
    Calls Try.prog 98 #[.slice a n c, .int .i64 zg, .int .i64 zs] w (RefReadN a n c bs glyphs size w) := by
  have hAC := allocC
  have hAF := allocF
  subst hzg hzs
  have HP := Lib.hid (fun W hW => parts_any a n c bs glyphs size (glyphs : Int) (size : Int) rfl rfl hg1 hg2 hS W (h.below hW) hl hn hc h20)
  have HL := Lib.hid hl
  clear h hl
  go_enter Try.func98, Try.ntmps98
  go_wp2_with fail
  refine (HP.out _ (balloc (brefl w) _)).mono ?_
  rintro e w1 ⟨⟨rs, okb, a1, c1, rfl, ⟨hh1, hfr⟩, q1, q2, q3, hP⟩, hb1⟩
  have HFR := Lib.hid hfr
  clear hfr
  have HH1 := Lib.hid hh1
  have HPP := Lib.hid hP
  have c6 : w1.heap[w.heap.size]? = some (.cells #[.slice none 0 0, .slice none 0 0] 42 (0, 0)) := (hb1.block _ (by simp)).trans (by rw [heap_push, if_pos rfl])
  have HB1 := Lib.hid (bthen (balloc (brefl w) _) hb1)
  have HC6 := Lib.hid c6
  have hl6 := (Array.getElem?_eq_some_iff.1 c6).1
  clear hh1 hP hb1 c6 HP
  generalize hLL : rs.length = L at *
  have HLL := Lib.hid hLL
  clear hLL
  go_wp2_with fail
  go_loopw [9, 10] (fun ok i wr => ∃ (k : Nat) (okk : Bool), k ≤ L ∧ i = .int .i64 (k : Nat) ∧ ok = .bool okk ∧ (okk = true ↔ okb = true ∧ ∀ i, i < k → goodR rs i) ∧ Below w1.heap.size w1 wr) (fun _ i _ => L - (Go.RowKit.intOf i).toNat)
  case atStart => exact ⟨0, okb, Nat.zero_le _, rfl, rfl, ⟨fun hx => ⟨hx, fun i hi => (by omega)⟩, fun hx => hx.1⟩, brefl _⟩
  case round =>
    obtain ⟨k, okk, hk, rfl, rfl, hok, hbr⟩ := hrel
    have HOK := Lib.hid hok
    have HBR := Lib.hid hbr
    clear hok hbr
    by_cases hlt : k < L
    · have hhw := HH1.out.below HBR.out
      obtain ⟨r, hr⟩ : ∃ r, rs[k]? = some r := ⟨_, List.getElem?_eq_getElem (by rw [HLL.out]; exact hlt)⟩
      have g0 := encRs_get rs k _ hr 0 (by omega)
      have g1 := encRs_get rs k _ hr 1 (by omega)
      simp only [encR, List.getElem?_cons_zero, List.getElem?_cons_succ, Nat.add_zero] at g0 g1
      obtain ⟨p, hap, _⟩ := hhw _ _ g0
      have k0 : ∀ pp : Wld wr [], pp.val.cell? (p.add (k * 5)) = some (.int .i64 (r.first : Nat)) := fun pp => by
        obtain ⟨x, hx, hc⟩ := has_wld hhw pp _ _ g0
        rw [hap] at hx; cases hx; exact hc
      have k1 : wr.cell? ⟨(p.add (k * 5)).block, (p.add (k * 5)).off + 1, none⟩ = some (.int .i64 (r.last : Nat)) := by
        rw [add_next]
        obtain ⟨x, hx, hc⟩ := hhw _ _ g1
        rw [hap] at hx; cases hx; exact hc
      have kb : (p.add (k * 5)).block < wr.heap.size := by have := cell_lt k1; simpa using this
      have HLT := Lib.hid hlt
      have HR := Lib.hid hr
      by_cases hfl : r.last < r.first
      · have HBAD := Lib.hid (show ¬ goodR rs k from fun hg => by have := (hg r hr).1; omega)
        have d1 : decide ((r.last : Int) < (r.first : Int)) = true := by simp; omega
        have d2 : decide (r.last < r.first) = true := by simp; omega
        have HST := Lib.hid (show false = true ↔ okb = true ∧ ∀ i, i < k + 1 → goodR rs i from ⟨fun hx => (by cases hx), fun hx => absurd (hx.2 k (Nat.lt_succ_self k)) HBAD.out⟩)
        subst hap
        clear hr g0 g1 hhw
        generalize r.first = f at *
        generalize r.last = l at *
        go_wp2_with fail
        refine wp_region_tree (.step 0 (.step 1 (.step 2 (.step 3 (.step 4 (.step 5 (.step 6 (.step 7 (.step 8 (.step 9 (.step 10 (.step 11 (.step 12 (.step 13 (.step 14 (.step 15 (.step 16 (.step 17 (.step 18 (.step 19 (.step 20 (.step 21 (.step 22 (.step 23 (.step 24 (.step 25 (.step 26 (.step 27 (.step 28 .nil))))))))))))))))))))))))))))) (by kernel_rfl) (by kernel_rfl) (by kernel_rfl) (by kernel_rfl) (by intro _ _ d_ _ _ h_; cases d_ <;> first | exact h_ | (dsimp +zetaDelta only at h_ ⊢; exact h_)) (fun w' => ∃ p : Wld wr [], w' = p.val) (wld_start _ _) ?_
        have hG_ := @wldC wr
        (refine tree_quiet gtA (by rfl) (by rfl) (fun K_ hK_ => ?_); go_big_quiet_op; refine hK_ _ ?_; clear hK_ K_)
        (refine tree_quiet gtA (by rfl) (by rfl) (fun K_ hK_ => ?_); go_big_quiet_op; refine hK_ _ ?_; clear hK_ K_)
        (refine tree_quiet gtA (by rfl) (by rfl) (fun K_ hK_ => ?_); go_big_quiet_op; refine hK_ _ ?_; clear hK_ K_)
        (refine tree_quiet gtA (by rfl) (by rfl) (fun K_ hK_ => ?_); go_big_quiet_op; refine hK_ _ ?_; clear hK_ K_)
        (refine tree_quiet gtA (by rfl) (by rfl) (fun K_ hK_ => ?_); go_big_quiet_op; refine hK_ _ ?_; clear hK_ K_)
        (refine tree_quiet gtA (by rfl) (by rfl) (fun K_ hK_ => ?_); go_big_quiet_op; refine hK_ _ ?_; clear hK_ K_)
        (refine tree_quiet gtA (by rfl) (by rfl) (fun K_ hK_ => ?_); go_big_quiet_op; refine hK_ _ ?_; clear hK_ K_)
        (refine tree_quiet gtA (by rfl) (by rfl) (fun K_ hK_ => ?_); go_big_quiet_op; refine hK_ _ ?_; clear hK_ K_)
        (refine tree_quiet gtA (by rfl) (by rfl) (fun K_ hK_ => ?_); go_big_quiet_op; refine hK_ _ ?_; clear hK_ K_)
        (refine tree_quiet gtA (by rfl) (by rfl) (fun K_ hK_ => ?_); go_big_quiet_op; refine hK_ _ ?_; clear hK_ K_)
        (refine tree_quiet gtA (by rfl) (by rfl) (fun K_ hK_ => ?_); go_big_quiet_op; refine hK_ _ ?_; clear hK_ K_)
        (refine tree_quiet gtA (by rfl) (by rfl) (fun K_ hK_ => ?_); go_big_quiet_op; refine hK_ _ ?_; clear hK_ K_)
        refine tree_skip gtA (by rfl) ?_; dsimp only [Act.put]; simp only [List.setIfInBounds_toArray, List.set_cons_succ, List.set_cons_zero]
        refine tree_skip gtA (by rfl) ?_; dsimp only [Act.put]; simp only [List.setIfInBounds_toArray, List.set_cons_succ, List.set_cons_zero]
        refine tree_skip gtA (by rfl) ?_; dsimp only [Act.put]; simp only [List.setIfInBounds_toArray, List.set_cons_succ, List.set_cons_zero]
        first | (refine tree_skip gtA (by rfl) ?_; dsimp only [Act.put]; simp only [List.setIfInBounds_toArray, List.set_cons_succ, List.set_cons_zero]) | (refine tree_quiet gtA (by rfl) (by rfl) (fun K_ hK_ => ?_); go_big_quiet_op; refine hK_ _ ?_; clear hK_ K_)
        first | (refine tree_skip gtA (by rfl) ?_; dsimp only [Act.put]; simp only [List.setIfInBounds_toArray, List.set_cons_succ, List.set_cons_zero]) | (refine tree_quiet gtA (by rfl) (by rfl) (fun K_ hK_ => ?_); go_big_quiet_op; refine hK_ _ ?_; clear hK_ K_)
        first | (refine tree_skip gtA (by rfl) ?_; dsimp only [Act.put]; simp only [List.setIfInBounds_toArray, List.set_cons_succ, List.set_cons_zero]) | (refine tree_quiet gtA (by rfl) (by rfl) (fun K_ hK_ => ?_); go_big_quiet_op; refine hK_ _ ?_; clear hK_ K_)
        first | (refine tree_skip gtA (by rfl) ?_; dsimp only [Act.put]; simp only [List.setIfInBounds_toArray, List.set_cons_succ, List.set_cons_zero]) | (refine tree_quiet gtA (by rfl) (by rfl) (fun K_ hK_ => ?_); go_big_quiet_op; refine hK_ _ ?_; clear hK_ K_)
        first | (refine tree_skip gtA (by rfl) ?_; dsimp only [Act.put]; simp only [List.setIfInBounds_toArray, List.set_cons_succ, List.set_cons_zero]) | (refine tree_quiet gtA (by rfl) (by rfl) (fun K_ hK_ => ?_); go_big_quiet_op; refine hK_ _ ?_; clear hK_ K_)
        first | (refine tree_skip gtA (by rfl) ?_; dsimp only [Act.put]; simp only [List.setIfInBounds_toArray, List.set_cons_succ, List.set_cons_zero]) | (refine tree_quiet gtA (by rfl) (by rfl) (fun K_ hK_ => ?_); go_big_quiet_op; refine hK_ _ ?_; clear hK_ K_)
        first | (refine tree_skip gtA (by rfl) ?_; dsimp only [Act.put]; simp only [List.setIfInBounds_toArray, List.set_cons_succ, List.set_cons_zero]) | (refine tree_quiet gtA (by rfl) (by rfl) (fun K_ hK_ => ?_); go_big_quiet_op; refine hK_ _ ?_; clear hK_ K_)
        first | (refine tree_skip gtA (by rfl) ?_; dsimp only [Act.put]; simp only [List.setIfInBounds_toArray, List.set_cons_succ, List.set_cons_zero]) | (refine tree_quiet gtA (by rfl) (by rfl) (fun K_ hK_ => ?_); go_big_quiet_op; refine hK_ _ ?_; clear hK_ K_)
        first | (refine tree_skip gtA (by rfl) ?_; dsimp only [Act.put]; simp only [List.setIfInBounds_toArray, List.set_cons_succ, List.set_cons_zero]) | (refine tree_quiet gtA (by rfl) (by rfl) (fun K_ hK_ => ?_); go_big_quiet_op; refine hK_ _ ?_; clear hK_ K_)
        first | (refine tree_skip gtA (by rfl) ?_; dsimp only [Act.put]; simp only [List.setIfInBounds_toArray, List.set_cons_succ, List.set_cons_zero]) | (refine tree_quiet gtA (by rfl) (by rfl) (fun K_ hK_ => ?_); go_big_quiet_op; refine hK_ _ ?_; clear hK_ K_)
        first | (refine tree_skip gtA (by rfl) ?_; dsimp only [Act.put]; simp only [List.setIfInBounds_toArray, List.set_cons_succ, List.set_cons_zero]) | (refine tree_quiet gtA (by rfl) (by rfl) (fun K_ hK_ => ?_); go_big_quiet_op; refine hK_ _ ?_; clear hK_ K_)
        first | (refine tree_skip gtA (by rfl) ?_; dsimp only [Act.put]; simp only [List.setIfInBounds_toArray, List.set_cons_succ, List.set_cons_zero]) | (refine tree_quiet gtA (by rfl) (by rfl) (fun K_ hK_ => ?_); go_big_quiet_op; refine hK_ _ ?_; clear hK_ K_)
        refine tree_skip gtA (by rfl) ?_; dsimp only [Act.put]; simp only [List.setIfInBounds_toArray, List.set_cons_succ, List.set_cons_zero]
        (refine tree_quiet gtA (by rfl) (by rfl) (fun K_ hK_ => ?_); go_big_quiet_op; refine hK_ _ ?_; clear hK_ K_)
        refine tree_nil ?_
        clear hG_
        go_wp2_with fail
        go_roundw
        case rel => exact ⟨k + 1, false, HLT.out, by go_num, rfl, HST.out, HBR.out.drew⟩
        case measure => simp [Go.RowKit.intOf]; have := HLT.out; omega
      · have d1 : decide ((r.last : Int) < (r.first : Int)) = false := by simp; omega
        have d2 : decide (r.last < r.first) = false := by simp; omega
        by_cases hk0 : k = 0
        · have HST := Lib.hid (show okk = true ↔ okb = true ∧ ∀ i, i < k + 1 → goodR rs i from by
            rw [HOK.out]
            refine ⟨fun hx => ⟨hx.1, fun i hi r' hr' => ?_⟩, fun hx => ⟨hx.1, fun i hi => (by omega)⟩⟩
            obtain rfl : i = k := by omega
            rw [hr] at hr'
            cases hr'
            exact ⟨by omega, fun q hq => (by omega)⟩)
          have d3 : decide (0 < (k : Int)) = false := by simp; omega
          have d4 : decide (0 < k) = false := by simp; omega
          subst hap
          clear hr g0 g1 hhw hk0
          generalize r.first = f at *
          generalize r.last = l at *
          go_wp2_with fail
          refine wp_region_tree (.step 0 (.step 1 (.step 2 (.step 3 (.step 4 (.step 5 (.step 6 (.step 7 (.step 8 (.step 9 (.step 10 (.step 11 (.step 12 (.step 13 (.step 14 (.step 15 (.step 16 (.step 17 (.step 18 (.step 19 (.step 20 (.step 21 (.step 22 (.step 23 (.step 24 (.step 25 (.step 26 (.step 27 (.step 28 .nil))))))))))))))))))))))))))))) (by kernel_rfl) (by kernel_rfl) (by kernel_rfl) (by kernel_rfl) (by intro _ _ d_ _ _ h_; cases d_ <;> first | exact h_ | (dsimp +zetaDelta only at h_ ⊢; exact h_)) (fun w' => ∃ p : Wld wr [], w' = p.val) (wld_start _ _) ?_
          have hG_ := @wldC wr
          (refine tree_quiet gtA (by rfl) (by rfl) (fun K_ hK_ => ?_); go_big_quiet_op; refine hK_ _ ?_; clear hK_ K_)
          (refine tree_quiet gtA (by rfl) (by rfl) (fun K_ hK_ => ?_); go_big_quiet_op; refine hK_ _ ?_; clear hK_ K_)
          (refine tree_quiet gtA (by rfl) (by rfl) (fun K_ hK_ => ?_); go_big_quiet_op; refine hK_ _ ?_; clear hK_ K_)
          (refine tree_quiet gtA (by rfl) (by rfl) (fun K_ hK_ => ?_); go_big_quiet_op; refine hK_ _ ?_; clear hK_ K_)
          (refine tree_quiet gtA (by rfl) (by rfl) (fun K_ hK_ => ?_); go_big_quiet_op; refine hK_ _ ?_; clear hK_ K_)
          (refine tree_quiet gtA (by rfl) (by rfl) (fun K_ hK_ => ?_); go_big_quiet_op; refine hK_ _ ?_; clear hK_ K_)
          (refine tree_quiet gtA (by rfl) (by rfl) (fun K_ hK_ => ?_); go_big_quiet_op; refine hK_ _ ?_; clear hK_ K_)
          (refine tree_quiet gtA (by rfl) (by rfl) (fun K_ hK_ => ?_); go_big_quiet_op; refine hK_ _ ?_; clear hK_ K_)
          (refine tree_quiet gtA (by rfl) (by rfl) (fun K_ hK_ => ?_); go_big_quiet_op; refine hK_ _ ?_; clear hK_ K_)
          (refine tree_quiet gtA (by rfl) (by rfl) (fun K_ hK_ => ?_); go_big_quiet_op; refine hK_ _ ?_; clear hK_ K_)
          (refine tree_quiet gtA (by rfl) (by rfl) (fun K_ hK_ => ?_); go_big_quiet_op; refine hK_ _ ?_; clear hK_ K_)
          (refine tree_quiet gtA (by rfl) (by rfl) (fun K_ hK_ => ?_); go_big_quiet_op; refine hK_ _ ?_; clear hK_ K_)
          (refine tree_quiet gtA (by rfl) (by rfl) (fun K_ hK_ => ?_); go_big_quiet_op; refine hK_ _ ?_; clear hK_ K_)
          (refine tree_quiet gtA (by rfl) (by rfl) (fun K_ hK_ => ?_); go_big_quiet_op; refine hK_ _ ?_; clear hK_ K_)
          (refine tree_quiet gtA (by rfl) (by rfl) (fun K_ hK_ => ?_); go_big_quiet_op; refine hK_ _ ?_; clear hK_ K_)
          refine tree_skip gtA (by rfl) ?_; dsimp only [Act.put]; simp only [List.setIfInBounds_toArray, List.set_cons_succ, List.set_cons_zero]
          refine tree_skip gtA (by rfl) ?_; dsimp only [Act.put]; simp only [List.setIfInBounds_toArray, List.set_cons_succ, List.set_cons_zero]
          refine tree_skip gtA (by rfl) ?_; dsimp only [Act.put]; simp only [List.setIfInBounds_toArray, List.set_cons_succ, List.set_cons_zero]
          refine tree_skip gtA (by rfl) ?_; dsimp only [Act.put]; simp only [List.setIfInBounds_toArray, List.set_cons_succ, List.set_cons_zero]
          refine tree_skip gtA (by rfl) ?_; dsimp only [Act.put]; simp only [List.setIfInBounds_toArray, List.set_cons_succ, List.set_cons_zero]
          refine tree_skip gtA (by rfl) ?_; dsimp only [Act.put]; simp only [List.setIfInBounds_toArray, List.set_cons_succ, List.set_cons_zero]
          refine tree_skip gtA (by rfl) ?_; dsimp only [Act.put]; simp only [List.setIfInBounds_toArray, List.set_cons_succ, List.set_cons_zero]
          refine tree_skip gtA (by rfl) ?_; dsimp only [Act.put]; simp only [List.setIfInBounds_toArray, List.set_cons_succ, List.set_cons_zero]
          refine tree_skip gtA (by rfl) ?_; dsimp only [Act.put]; simp only [List.setIfInBounds_toArray, List.set_cons_succ, List.set_cons_zero]
          refine tree_skip gtA (by rfl) ?_; dsimp only [Act.put]; simp only [List.setIfInBounds_toArray, List.set_cons_succ, List.set_cons_zero]
          refine tree_skip gtA (by rfl) ?_; dsimp only [Act.put]; simp only [List.setIfInBounds_toArray, List.set_cons_succ, List.set_cons_zero]
          refine tree_skip gtA (by rfl) ?_; dsimp only [Act.put]; simp only [List.setIfInBounds_toArray, List.set_cons_succ, List.set_cons_zero]
          (refine tree_quiet gtA (by rfl) (by rfl) (fun K_ hK_ => ?_); go_big_quiet_op; refine hK_ _ ?_; clear hK_ K_)
          (refine tree_quiet gtA (by rfl) (by rfl) (fun K_ hK_ => ?_); go_big_quiet_op; refine hK_ _ ?_; clear hK_ K_)
          refine tree_nil ?_
          clear hG_
          go_wp2_with fail
          go_roundw
          case rel => exact ⟨k + 1, okk, HLT.out, by go_num, rfl, HST.out, HBR.out.drew⟩
          case measure => simp [Go.RowKit.intOf]; have := HLT.out; omega
        · obtain ⟨m, hm⟩ : ∃ m, k = m + 1 := ⟨k - 1, by omega⟩
          have hkm : (k : Int) - 1 = (m : Int) := by omega
          obtain ⟨r', hr'⟩ : ∃ r', rs[m]? = some r' := ⟨_, List.getElem?_eq_getElem (by rw [HLL.out]; omega)⟩
          have g3 := encRs_get rs m _ hr' 1 (by omega)
          simp only [encR, List.getElem?_cons_zero, List.getElem?_cons_succ] at g3
          have k3 : wr.cell? ⟨(p.add (m * 5)).block, (p.add (m * 5)).off + 1, none⟩ = some (.int .i64 (r'.last : Nat)) := by
            rw [add_next]
            obtain ⟨x, hx, hc⟩ := hhw _ _ g3
            rw [hap] at hx; cases hx; exact hc
          have kb3 : (p.add (m * 5)).block < wr.heap.size := by have := cell_lt k3; simpa using this
          have hGD : goodR rs k ↔ r'.last < r.first := by
            constructor
            · intro hg
              exact (hg r hr).2 r' (by omega) (by rw [hm]; exact hr')
            · intro hx x hx2
              rw [hr] at hx2
              cases hx2
              refine ⟨by omega, fun q _ hq => ?_⟩
              rw [hm] at hq
              have : rs[m]? = some q := hq
              rw [hr'] at this
              cases this
              exact hx
          have d3 : decide (0 < (k : Int)) = true := by simp; omega
          have d4 : decide (0 < k) = true := by simp; omega
          have hmL : m < L := by omega
          by_cases hpl : r'.last < r.first
          · have HST := Lib.hid (show okk = true ↔ okb = true ∧ ∀ i, i < k + 1 → goodR rs i from by
              rw [HOK.out]
              refine ⟨fun hx => ⟨hx.1, fun i hi => ?_⟩, fun hx => ⟨hx.1, fun i hi => hx.2 i (by omega)⟩⟩
              rcases Nat.lt_or_ge i k with hl | hl
              · exact hx.2 i hl
              · obtain rfl : i = k := by omega
                exact hGD.2 hpl)
            have d5 : decide ((r.first : Int) ≤ (r'.last : Int)) = false := by simp; omega
            have d6 : decide (r.first ≤ r'.last) = false := by simp; omega
            subst hap
            clear hr g0 g1 hhw hk0 hr' g3 hGD hm
            generalize r.first = f at *
            generalize r.last = l at *
            generalize r'.last = pl at *
            go_wp2_with fail
            refine wp_region_tree (.step 0 (.step 1 (.step 2 (.step 3 (.step 4 (.step 5 (.step 6 (.step 7 (.step 8 (.step 9 (.step 10 (.step 11 (.step 12 (.step 13 (.step 14 (.step 15 (.step 16 (.step 17 (.step 18 (.step 19 (.step 20 (.step 21 (.step 22 (.step 23 (.step 24 (.step 25 (.step 26 (.step 27 (.step 28 .nil))))))))))))))))))))))))))))) (by kernel_rfl) (by kernel_rfl) (by kernel_rfl) (by kernel_rfl) (by intro _ _ d_ _ _ h_; cases d_ <;> first | exact h_ | (dsimp +zetaDelta only at h_ ⊢; exact h_)) (fun w' => ∃ p : Wld wr [], w' = p.val) (wld_start _ _) ?_
            have hG_ := @wldC wr
            (refine tree_quiet gtA (by rfl) (by rfl) (fun K_ hK_ => ?_); go_big_quiet_op; refine hK_ _ ?_; clear hK_ K_)
            (refine tree_quiet gtA (by rfl) (by rfl) (fun K_ hK_ => ?_); go_big_quiet_op; refine hK_ _ ?_; clear hK_ K_)
            (refine tree_quiet gtA (by rfl) (by rfl) (fun K_ hK_ => ?_); go_big_quiet_op; refine hK_ _ ?_; clear hK_ K_)
            (refine tree_quiet gtA (by rfl) (by rfl) (fun K_ hK_ => ?_); go_big_quiet_op; refine hK_ _ ?_; clear hK_ K_)
            (refine tree_quiet gtA (by rfl) (by rfl) (fun K_ hK_ => ?_); go_big_quiet_op; refine hK_ _ ?_; clear hK_ K_)
            (refine tree_quiet gtA (by rfl) (by rfl) (fun K_ hK_ => ?_); go_big_quiet_op; refine hK_ _ ?_; clear hK_ K_)
            (refine tree_quiet gtA (by rfl) (by rfl) (fun K_ hK_ => ?_); go_big_quiet_op; refine hK_ _ ?_; clear hK_ K_)
            (refine tree_quiet gtA (by rfl) (by rfl) (fun K_ hK_ => ?_); go_big_quiet_op; refine hK_ _ ?_; clear hK_ K_)
            (refine tree_quiet gtA (by rfl) (by rfl) (fun K_ hK_ => ?_); go_big_quiet_op; refine hK_ _ ?_; clear hK_ K_)
            (refine tree_quiet gtA (by rfl) (by rfl) (fun K_ hK_ => ?_); go_big_quiet_op; refine hK_ _ ?_; clear hK_ K_)
            (refine tree_quiet gtA (by rfl) (by rfl) (fun K_ hK_ => ?_); go_big_quiet_op; refine hK_ _ ?_; clear hK_ K_)
            (refine tree_quiet gtA (by rfl) (by rfl) (fun K_ hK_ => ?_); go_big_quiet_op; refine hK_ _ ?_; clear hK_ K_)
            (refine tree_quiet gtA (by rfl) (by rfl) (fun K_ hK_ => ?_); go_big_quiet_op; refine hK_ _ ?_; clear hK_ K_)
            (refine tree_quiet gtA (by rfl) (by rfl) (fun K_ hK_ => ?_); go_big_quiet_op; refine hK_ _ ?_; clear hK_ K_)
            (refine tree_quiet gtA (by rfl) (by rfl) (fun K_ hK_ => ?_); go_big_quiet_op; refine hK_ _ ?_; clear hK_ K_)
            (refine tree_quiet gtA (by rfl) (by rfl) (fun K_ hK_ => ?_); go_big_quiet_op; refine hK_ _ ?_; clear hK_ K_)
            (refine tree_quiet gtA (by rfl) (by rfl) (fun K_ hK_ => ?_); go_big_quiet_op; refine hK_ _ ?_; clear hK_ K_)
            (refine tree_quiet gtA (by rfl) (by rfl) (fun K_ hK_ => ?_); go_big_quiet_op; refine hK_ _ ?_; clear hK_ K_)
            (refine tree_quiet gtA (by rfl) (by rfl) (fun K_ hK_ => ?_); go_big_quiet_op; refine hK_ _ ?_; clear hK_ K_)
            (refine tree_quiet gtA (by rfl) (by rfl) (fun K_ hK_ => ?_); go_big_quiet_op; refine hK_ _ ?_; clear hK_ K_)
            (refine tree_quiet gtA (by rfl) (by rfl) (fun K_ hK_ => ?_); go_big_quiet_op; refine hK_ _ ?_; clear hK_ K_)
            (refine tree_quiet gtA (by rfl) (by rfl) (fun K_ hK_ => ?_); go_big_quiet_op; refine hK_ _ ?_; clear hK_ K_)
            (refine tree_quiet gtA (by rfl) (by rfl) (fun K_ hK_ => ?_); go_big_quiet_op; refine hK_ _ ?_; clear hK_ K_)
            (refine tree_quiet gtA (by rfl) (by rfl) (fun K_ hK_ => ?_); go_big_quiet_op; refine hK_ _ ?_; clear hK_ K_)
            (refine tree_quiet gtA (by rfl) (by rfl) (fun K_ hK_ => ?_); go_big_quiet_op; refine hK_ _ ?_; clear hK_ K_)
            (refine tree_quiet gtA (by rfl) (by rfl) (fun K_ hK_ => ?_); go_big_quiet_op; refine hK_ _ ?_; clear hK_ K_)
            (refine tree_quiet gtA (by rfl) (by rfl) (fun K_ hK_ => ?_); go_big_quiet_op; refine hK_ _ ?_; clear hK_ K_)
            (refine tree_quiet gtA (by rfl) (by rfl) (fun K_ hK_ => ?_); go_big_quiet_op; refine hK_ _ ?_; clear hK_ K_)
            (refine tree_quiet gtA (by rfl) (by rfl) (fun K_ hK_ => ?_); go_big_quiet_op; refine hK_ _ ?_; clear hK_ K_)
            refine tree_nil ?_
            clear hG_
            go_wp2_with fail
            go_roundw
            case rel => exact ⟨k + 1, okk, HLT.out, by go_num, rfl, HST.out, HBR.out.drew⟩
            case measure => simp [Go.RowKit.intOf]; have := HLT.out; omega
          · have HST := Lib.hid (show false = true ↔ okb = true ∧ ∀ i, i < k + 1 → goodR rs i from ⟨fun hx => (by cases hx), fun hx => absurd (hGD.1 (hx.2 k (Nat.lt_succ_self k))) hpl⟩)
            have d5 : decide ((r.first : Int) ≤ (r'.last : Int)) = true := by simp; omega
            have d6 : decide (r.first ≤ r'.last) = true := by simp; omega
            subst hap
            clear hr g0 g1 hhw hk0 hr' g3 hGD hm
            generalize r.first = f at *
            generalize r.last = l at *
            generalize r'.last = pl at *
            go_wp2_with fail
            refine wp_region_tree (.step 0 (.step 1 (.step 2 (.step 3 (.step 4 (.step 5 (.step 6 (.step 7 (.step 8 (.step 9 (.step 10 (.step 11 (.step 12 (.step 13 (.step 14 (.step 15 (.step 16 (.step 17 (.step 18 (.step 19 (.step 20 (.step 21 (.step 22 (.step 23 (.step 24 (.step 25 (.step 26 (.step 27 (.step 28 .nil))))))))))))))))))))))))))))) (by kernel_rfl) (by kernel_rfl) (by kernel_rfl) (by kernel_rfl) (by intro _ _ d_ _ _ h_; cases d_ <;> first | exact h_ | (dsimp +zetaDelta only at h_ ⊢; exact h_)) (fun w' => ∃ p : Wld wr [], w' = p.val) (wld_start _ _) ?_
            have hG_ := @wldC wr
            (refine tree_quiet gtA (by rfl) (by rfl) (fun K_ hK_ => ?_); go_big_quiet_op; refine hK_ _ ?_; clear hK_ K_)
            (refine tree_quiet gtA (by rfl) (by rfl) (fun K_ hK_ => ?_); go_big_quiet_op; refine hK_ _ ?_; clear hK_ K_)
            (refine tree_quiet gtA (by rfl) (by rfl) (fun K_ hK_ => ?_); go_big_quiet_op; refine hK_ _ ?_; clear hK_ K_)
            (refine tree_quiet gtA (by rfl) (by rfl) (fun K_ hK_ => ?_); go_big_quiet_op; refine hK_ _ ?_; clear hK_ K_)
            (refine tree_quiet gtA (by rfl) (by rfl) (fun K_ hK_ => ?_); go_big_quiet_op; refine hK_ _ ?_; clear hK_ K_)
            (refine tree_quiet gtA (by rfl) (by rfl) (fun K_ hK_ => ?_); go_big_quiet_op; refine hK_ _ ?_; clear hK_ K_)
            (refine tree_quiet gtA (by rfl) (by rfl) (fun K_ hK_ => ?_); go_big_quiet_op; refine hK_ _ ?_; clear hK_ K_)
            (refine tree_quiet gtA (by rfl) (by rfl) (fun K_ hK_ => ?_); go_big_quiet_op; refine hK_ _ ?_; clear hK_ K_)
            (refine tree_quiet gtA (by rfl) (by rfl) (fun K_ hK_ => ?_); go_big_quiet_op; refine hK_ _ ?_; clear hK_ K_)
            (refine tree_quiet gtA (by rfl) (by rfl) (fun K_ hK_ => ?_); go_big_quiet_op; refine hK_ _ ?_; clear hK_ K_)
            (refine tree_quiet gtA (by rfl) (by rfl) (fun K_ hK_ => ?_); go_big_quiet_op; refine hK_ _ ?_; clear hK_ K_)
            (refine tree_quiet gtA (by rfl) (by rfl) (fun K_ hK_ => ?_); go_big_quiet_op; refine hK_ _ ?_; clear hK_ K_)
            (refine tree_quiet gtA (by rfl) (by rfl) (fun K_ hK_ => ?_); go_big_quiet_op; refine hK_ _ ?_; clear hK_ K_)
            (refine tree_quiet gtA (by rfl) (by rfl) (fun K_ hK_ => ?_); go_big_quiet_op; refine hK_ _ ?_; clear hK_ K_)
            (refine tree_quiet gtA (by rfl) (by rfl) (fun K_ hK_ => ?_); go_big_quiet_op; refine hK_ _ ?_; clear hK_ K_)
            (refine tree_quiet gtA (by rfl) (by rfl) (fun K_ hK_ => ?_); go_big_quiet_op; refine hK_ _ ?_; clear hK_ K_)
            (refine tree_quiet gtA (by rfl) (by rfl) (fun K_ hK_ => ?_); go_big_quiet_op; refine hK_ _ ?_; clear hK_ K_)
            (refine tree_quiet gtA (by rfl) (by rfl) (fun K_ hK_ => ?_); go_big_quiet_op; refine hK_ _ ?_; clear hK_ K_)
            (refine tree_quiet gtA (by rfl) (by rfl) (fun K_ hK_ => ?_); go_big_quiet_op; refine hK_ _ ?_; clear hK_ K_)
            (refine tree_quiet gtA (by rfl) (by rfl) (fun K_ hK_ => ?_); go_big_quiet_op; refine hK_ _ ?_; clear hK_ K_)
            (refine tree_quiet gtA (by rfl) (by rfl) (fun K_ hK_ => ?_); go_big_quiet_op; refine hK_ _ ?_; clear hK_ K_)
            (refine tree_quiet gtA (by rfl) (by rfl) (fun K_ hK_ => ?_); go_big_quiet_op; refine hK_ _ ?_; clear hK_ K_)
            (refine tree_quiet gtA (by rfl) (by rfl) (fun K_ hK_ => ?_); go_big_quiet_op; refine hK_ _ ?_; clear hK_ K_)
            (refine tree_quiet gtA (by rfl) (by rfl) (fun K_ hK_ => ?_); go_big_quiet_op; refine hK_ _ ?_; clear hK_ K_)
            (refine tree_quiet gtA (by rfl) (by rfl) (fun K_ hK_ => ?_); go_big_quiet_op; refine hK_ _ ?_; clear hK_ K_)
            (refine tree_quiet gtA (by rfl) (by rfl) (fun K_ hK_ => ?_); go_big_quiet_op; refine hK_ _ ?_; clear hK_ K_)
            (refine tree_quiet gtA (by rfl) (by rfl) (fun K_ hK_ => ?_); go_big_quiet_op; refine hK_ _ ?_; clear hK_ K_)
            (refine tree_quiet gtA (by rfl) (by rfl) (fun K_ hK_ => ?_); go_big_quiet_op; refine hK_ _ ?_; clear hK_ K_)
            (refine tree_quiet gtA (by rfl) (by rfl) (fun K_ hK_ => ?_); go_big_quiet_op; refine hK_ _ ?_; clear hK_ K_)
            refine tree_nil ?_
            clear hG_
            go_wp2_with fail
            go_roundw
            case rel => exact ⟨k + 1, false, HLT.out, by go_num, rfl, HST.out, HBR.out.drew⟩
            case measure => simp [Go.RowKit.intOf]; have := HLT.out; omega
    · obtain rfl : k = L := by omega
      have c6 := cell_of_heap ((HBR.out.block w.heap.size hl6).trans HC6.out)
      have f6 := fun o => froz_of_heap ((HBR.out.block w.heap.size hl6).trans HC6.out) o
      have c60 := c6 0
      have c61 := c6 1
      simp only [List.getElem?_toArray, List.getElem?_cons_zero, List.getElem?_cons_succ] at c60 c61
      have hl7 : w.heap.size < wr.heap.size := cell_lt c60
      have HBX := Lib.hid (HB1.out.trans (HBR.out.mono HB1.out.size))
      have HHR := Lib.hid (HH1.out.below HBR.out)
      have HAP := Lib.hid (encRs_apart HHR.out ((HBR.out.block w.heap.size hl6).trans HC6.out) (fun z => by simp) (fun z => by simp))
      have HSZ := Lib.hid (show LkRows bs glyphs size rs → ∀ r ∈ rs, 1 ≤ r.size from fun hr r hm => by have := (hr.each hg2 hS).2 r hm; omega)
      clear c6
      cases okk with
      | true =>
        obtain ⟨hb1, hgood⟩ := HOK.out.1 rfl
        obtain ⟨hrw, hfz⟩ := HPP.out.1 hb1
        rw [← HL.out] at hfz
        have HLK := Lib.hid (show LkOk bs glyphs size rs from ⟨hrw, (okR_good bs rs (HSZ.out hrw)).2 ⟨fun i hi => hgood i (by rw [← HLL.out]; exact hi), hfz⟩⟩)
        clear hb1 hgood hrw hfz
        go_wp2_with fail
        refine bodyPost_ret (v := .tuple #[.agg #[.slice a n c, .slice a1 k c1], .bool true]) (by simp [results, Try.results98, go_sem, c60, c61, f6]) rfl ?_
        refine ⟨.inl ⟨rs, a1, c1, HLK.out, by rw [HLL.out], ⟨has_set (has_set HHR.out HAP.out _) HAP.out _, fun hx p hp => by obtain ⟨g1, cs, fz, g2⟩ := HFR.out hx p hp; have g3 : w.heap.size + 1 ≤ p.block := (by simpa using g1); exact ⟨by omega, cs, fz, (set_heap_other _ (by omega)).trans ((set_heap_other _ (by omega)).trans ((HBR.out.block _ (Array.getElem?_eq_some_iff.1 g2).1).trans g2))⟩⟩, by rw [HLL.out]; exact q1, q2, by rw [HLL.out]; exact q3⟩, bset (bset HBX.out (Nat.le_refl _) _) (Nat.le_refl _) _⟩
      | false =>
        have HNO := Lib.hid (show ∀ rs', ¬ LkOk bs glyphs size rs' from fun rs' hx => by
          cases hbb : okb with
          | false => exact HPP.out.2 hbb rs' hx
          | true =>
            obtain ⟨hrw, _⟩ := HPP.out.1 hbb
            obtain rfl := hx.rows.det hrw
            have := HOK.out.2 ⟨hbb, fun i hi => ((okR_good bs rs' (HSZ.out hrw)).1 hx.ok).1 i (by rw [HLL.out]; exact hi)⟩
            cases this)
        go_wp2_with fail
        refine bodyPost_ret (v := .tuple #[.agg #[.slice none 0 0, .slice none 0 0], .bool false]) (by simp [results, Try.results98, go_sem, c60, c61, f6]) rfl ?_
        exact ⟨.inr ⟨HNO.out, rfl⟩, bset (bset HBX.out (Nat.le_refl _) _) (Nat.le_refl _) _⟩
theorem refRead_any (a : Option Addr) (n c : Nat) (bs : List UInt8) (glyphs size : Nat) (zg zs : Int) (hzg : zg = (glyphs : Nat)) (hzs : zs = (size : Nat)) (hg1 : 1 ≤ glyphs) (hg2 : glyphs ≤ 65535) (hS : size = 2 ∨ size = 4) (w : World) (h : Has w a (bytesV bs)) (hl : bs.length = n) (hn : n ≤ c) (hc : c ≤ maxLen) (h20 : n ≤ 4000) :
    Calls Try.prog 98 #[.slice a n c, .int .i64 zg, .int .i64 zs] w (RefReadIs a n c bs glyphs size w) :=
  (refRead_new a n c bs glyphs size zg zs hzg hzs hg1 hg2 hS w h hl hn hc h20).mono fun _ _ h => ⟨h.1.imp (fun ⟨rs, a', c', h1, h2, h3, h4⟩ => ⟨rs, a', c', h1, h2, h3.1, h4⟩) id, h.2⟩
end Go.Proofs.Ytbicnkopmamnpaa
end
