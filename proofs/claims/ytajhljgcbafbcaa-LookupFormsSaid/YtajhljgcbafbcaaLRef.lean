
/- The reference's parts of layer 6: segments. Conditions: no more than 2000 bytes. -/
import Derived.Test.YtajhljgcbafbcaaSRef
import Derived.Test.YtajhljgcbafbcaaLSpeak
namespace Go.Proofs.Ytajhljgcbafbcaa
open Go.RowKit Go.Lib

def encR (r : RP) : List Value := [.int .i64 (r.first : Nat), .int .i64 (r.last : Nat), .int .i64 (r.at_ : Nat), .int .i64 (r.size : Nat), .int .i64 ((if r.own = true then r.size else 0 : Nat) : Int)]
def encRs (rs : List RP) : List Value := rs.flatMap encR
theorem encRs_snoc (rs : List RP) (r : RP) : encRs rs ++ encR r = encRs (rs ++ [r]) := by simp [encRs]
theorem encRs_length (rs : List RP) : (encRs rs).length = rs.length * 5 := by
  induction rs with
  | nil => rfl
  | cons r rs ih => simp only [encRs, List.flatMap_cons, List.length_append] at *; rw [ih]; simp [encR]; omega
theorem encRs_get : ∀ (rs : List RP) (i : Nat) (r : RP), rs[i]? = some r → ∀ j, j < 5 → (encRs rs)[i * 5 + j]? = (encR r)[j]?
  | [], i, r, h, _, _ => by simp at h
  | q :: rs, 0, r, h, j, hj => by
    simp at h
    subst h
    show (encR q ++ encRs rs)[0 * 5 + j]? = _
    rw [List.getElem?_append_left (by simp [encR]; omega)]
    simp
  | q :: rs, i + 1, r, h, j, hj => by
    show (encR q ++ encRs rs)[(i + 1) * 5 + j]? = _
    rw [List.getElem?_append_right (by simp [encR]; omega), ← encRs_get rs i r (by simpa using h) j hj]
    congr 1
    simp [encR]
    omega
theorem rp_info : (Try.prog.info? 87).map (fun i => (i.zero, i.size, i.bytes)) = some (some (.agg #[.int .i64 0, .int .i64 0, .int .i64 0, .int .i64 0, .int .i64 0]), 5, 40) := by kernel_rfl
theorem sref_z (a : Option Addr) (n c : Nat) (bs : List UInt8) (need keys : Nat) (y z : Int) (hy : y = (need : Nat)) (hz : z = (keys : Nat)) (w : World) (h : Has w a (bytesV bs)) (hl : bs.length = n) (hn : n ≤ c) (hc : c ≤ maxLen) (h20 : n ≤ 2000)
    (h2 : 2 ≤ need) (hn63 : need ≤ 9223372036854775807) (h1 : 1 ≤ keys) (hkn : 2 * keys ≤ need) :
    Calls Try.prog 72 #[.slice a n c, .int .i64 2, .int .i64 y, .int .i64 z] w fun e w' =>
      ((∃ (a' : Option Addr) (c' : Nat), skOk bs 2 need ∧ e = .returned (.tuple #[.slice a' (skM bs 2 keys) c', .int .i64 (skS bs 2 : Nat), .bool true]) ∧ Has w' a' (intsV (placesV 2 (skS bs 2) (skM bs 2 keys))) ∧ skM bs 2 keys ≤ c' ∧ c' ≤ maxLen) ∨
       (¬ skOk bs 2 need ∧ e = .returned (.tuple #[.slice none 0 0, .int .i64 0, .bool false]))) ∧ Below w.heap.size w w' := by
  subst hy; subst hz
  refine (sref_any a n c bs 2 need keys w h hl hn hc h20 (by omega) h2 hn63 h1 hkn).mono ?_
  rintro e w' ⟨(⟨j, a', c', hj, hok, he, hh, q1, q2⟩ | ⟨hno, he⟩), hb⟩
  · obtain rfl : j = 2 := by omega
    exact ⟨.inl ⟨a', c', hok, he, hh, q1, q2⟩, hb⟩
  · exact ⟨.inr ⟨hno 2 rfl, he⟩, hb⟩
def PartsRes (P : List RP → Bool → Prop) (w : World) (e : Ending) (w' : World) : Prop :=
  (∃ (rs : List RP) (okb : Bool) (a' : Option Addr) (c' : Nat), e = .returned (.tuple #[.slice a' rs.length c', .bool okb]) ∧ Has w' a' (encRs rs) ∧ rs.length ≤ c' ∧ c' ≤ maxLen ∧ rs.length ≤ 65535 ∧ P rs okb) ∧ Below w.heap.size w w'
def SgRel (W : World) (rs : List RP) (ok out i : Value) (wr : World) : Prop :=
  ok = .bool true ∧ ∃ (k : Nat) (a' : Option Addr) (c' : Nat), k ≤ rs.length ∧ i = .int .i64 (k : Nat) ∧ out = .slice a' k c' ∧ wr.ownsRow W.heap.size 87 5 out k (encRs (rs.take k)) ∧ k ≤ c' ∧ c' ≤ maxLen ∧ Below W.heap.size W wr
set_option maxRecDepth 100000 in
set_option maxHeartbeats 3200000 in
theorem segs_false (a : Option Addr) (n c : Nat) (bs : List UInt8) (S : Nat) (zs : Int) (hzs : zs = (S : Nat)) (hS : S = 2 ∨ S = 4) (w : World) (h : Has w a (bytesV bs)) (hl : bs.length = n) (hn : n ≤ c) (hc : c ≤ maxLen) (h20 : n ≤ 2000) :
    Calls Try.prog 71 #[.slice a n c, .int .i64 zs, .bool false] w (PartsRes (fun rs okb => (okb = true → skOk bs 2 (4 + S) ∧ rs = rows2 bs S (skM bs 2 2)) ∧ (okb = false → ¬ skOk bs 2 (4 + S))) w) := by
  have hAC := allocC
  have hAF := allocF
  subst hzs
  have HR := Lib.hid (sref_z a n c bs (4 + S) 2 (4 + (S : Int)) 2 (by omega) rfl w h hl hn hc h20 (by omega) (by omega) (by decide) (by omega))
  have HH := Lib.hid h
  have HL := Lib.hid hl
  clear h hl
  go_enter Try.func71, Try.ntmps71
  go_wp2_with fail
  refine HR.out.mono ?_
  rintro e w2 ⟨(⟨a2, c2, hok, rfl, hrow, q1, q2⟩ | ⟨hno, rfl⟩), hb2⟩
  case inr =>
    have HB2 := Lib.hid hb2
    have HNO := Lib.hid hno
    clear hb2 hno HR
    go_wp2_with fail
    go_loopw [11, 12, 13] (fun ok out i wr => ok = .bool false ∧ (∃ x y, out = .slice x 0 y ∧ y ≤ maxLen) ∧ i = .int .i64 0 ∧ Below w2.heap.size w2 wr) (fun _ _ _ _ => 0)
    case atStart => exact ⟨rfl, ⟨_, _, rfl, Nat.zero_le _⟩, rfl, (by repeat (first | exact brefl _ | assumption | refine balloc ?_ _ | refine bdrew ?_ _ | refine bdrew1 ?_ | refine bthen ?_ (by assumption) | refine Below.trans ?_ (by assumption) | (refine bset ?_ (by first | (simp; done) | (simp; omega)) _)))⟩
    case round =>
      obtain ⟨rfl, ⟨x, y, rfl, hy⟩, rfl, hbr⟩ := hrel
      have HBR := Lib.hid (HB2.out.trans (hbr.mono HB2.out.size))
      clear hbr
      go_wp2_with fail
      go_ret2
      exact ⟨⟨[], false, _, _, rfl, fun j u hu => (by simp [encRs] at hu), Nat.zero_le _, hy, Nat.zero_le _, fun hx => (by cases hx), fun _ => HNO.out⟩, HBR.out⟩
  have HOK := Lib.hid hok
  have HB2 := Lib.hid hb2
  have HROW := Lib.hid hrow
  have hMN : skM bs 2 2 ≤ skN bs 2 := by unfold skM; split <;> omega
  have hM7 : skM bs 2 2 ≤ 65535 := Nat.le_trans hMN (num2_lt _ _)
  have hfit := hok.rows
  have hsz := hok.size
  rw [HL.out] at hfit
  have HRS := Lib.hid (show ∀ j, j < skM bs 2 2 → (rows2 bs S (skM bs 2 2))[j]? = some ⟨num bs (12 + j * skS bs 2 + 2) 2, num bs (12 + j * skS bs 2) 2, 12 + j * skS bs 2 + 4, S, false⟩ from fun j hj => by simp [rows2, List.getElem?_map, List.getElem?_range hj])
  have HLEN := Lib.hid (show (rows2 bs S (skM bs 2 2)).length = skM bs 2 2 from by simp [rows2])
  have HRE := Lib.hid (show rows2 bs S (skM bs 2 2) = rows2 bs S (skM bs 2 2) from rfl)
  clear hok hb2 hrow HR
  generalize hrs : rows2 bs S (skM bs 2 2) = rs at *
  have HRE := Lib.hid hrs
  clear hrs
  generalize hMM : skM bs 2 2 = M at *
  have HMM := Lib.hid hMM
  clear hMM
  generalize skS bs 2 = q at *
  generalize skN bs 2 = N at *
  have HFIT := Lib.hid (show ∀ j, j < M → 12 + j * q + q ≤ n from fun j hj => by
    have : j * q + q ≤ N * q := by rw [← Nat.succ_mul]; exact Nat.mul_le_mul_right _ (by omega)
    omega)
  clear hfit hMN
  go_wp2_with fail
  go_loopw [11, 12, 13] (SgRel w2 rs) (fun _ _ i _ => M - (intOf i).toNat)
  case atStart => exact ⟨rfl, 0, _, _, Nat.zero_le _, rfl, rfl, World.ownsRow_lit w2 #[] 0 (Nat.le_refl _) (by decide) rfl, Nat.le_refl _, Nat.zero_le _, (by repeat (first | exact brefl _ | assumption | refine balloc ?_ _ | refine bdrew ?_ _ | refine bdrew1 ?_ | refine bthen ?_ (by assumption) | refine Below.trans ?_ (by assumption) | (refine bset ?_ (by first | (simp; done) | (simp; omega)) _)))⟩
  case round =>
    obtain ⟨rfl, k, a3, c3, hk, rfl, rfl, hown, o1, o2, hbr⟩ := hrel
    rw [HLEN.out] at hk
    have HOW := Lib.hid hown
    have HBR := Lib.hid hbr
    have HBX := Lib.hid (HB2.out.trans (hbr.mono HB2.out.size))
    clear hown hbr
    by_cases hlt : k < M
    · have hp := HFIT.out k hlt
      have HRK := Lib.hid (HRS.out k hlt)
      have HLT := Lib.hid hlt
      have hkp : (intsV (placesV 2 q M))[k]? = some (.int .i64 ((12 + k * q : Nat) : Int)) := by simp [intsV, placesV, List.getElem?_map, List.getElem?_range hlt]
      obtain ⟨ar, har, hcr⟩ := (HROW.out.below HBR.out) k _ hkp
      have hcw : ∀ pp : Wld wr [], pp.val.cell? (ar.add k) = some (.int .i64 ((12 + k * q : Nat) : Int)) := fun pp => by
        obtain ⟨x, hx, hc⟩ := has_wld (HROW.out.below HBR.out) pp k _ hkp
        rw [har] at hx
        cases hx
        exact hc
      clear hkp
      have HU2 := Lib.hid (fun W hw => u2_z a n c (12 + k * q + 2) (((12 + k * q : Nat) : Int) + 2) (by omega) bs W hw HL.out (by omega) (Nat.le_trans hn hc))
      have HU0 := Lib.hid (fun W hw => u2_z a n c (12 + k * q) (((12 + k * q : Nat) : Int)) rfl bs W hw HL.out (by omega) (Nat.le_trans hn hc))
      have HHR := Lib.hid (HH.out.below HBX.out)
      generalize hf1 : num bs (12 + k * q + 2) 2 = f1 at *
      generalize hf2 : num bs (12 + k * q) 2 = f2 at *
      generalize hpp : 12 + k * q = p at *
      have HAR := Lib.hid har
      subst har
      clear hf1 hf2 hpp
      go_wp2_with fail
      apply cutP (R := ∀ (g_ : Nat) (x_ : Nat → Value) (W_ : World), (fun gp V => Below wr.heap.size wr V ∧ wr.heap.size ≤ gp ∧ gp < V.heap.size ∧ V.heap[gp]? = some (.cells #[.int .i64 (f1 : Nat), .int .i64 (f2 : Nat), .int .i64 ((p : Int) + 4), .int .i64 (S : Nat), .int .i64 0] 87 (0, 0))) g_ W_ → _)
      · intro hfin_
        refine wp_region_tree (.step 0 (.step 1 (.step 2 (.step 3 (.step 4 (.step 5 (.step 7 (.step 8 (.step 9 (.step 10 (.step 11 (.step 13 (.step 14 (.step 15 (.step 16 (.step 17 (.step 18 (.two 6 (.two 12 (.step 19 (.step 20 (.step 21 .nil))) 20 (.step 12 (.step 19 (.step 21 .nil)))) 20 (.step 6 (.step 12 (.step 19 (.step 21 .nil)))))))))))))))))))))) (by kernel_rfl) (by kernel_rfl) (by kernel_rfl) (by kernel_rfl) (by intro _ _ d_ _ _ h_; cases d_ <;> first | exact h_ | (dsimp +zetaDelta only at h_ ⊢; exact h_)) (fun w' => ∃ p : Wld wr [], w' = p.val) (wld_start _ _) ?_
        have hG_ := @wldC wr
        (refine tree_quiet (by simp only [List.getElem?_toArray, List.getElem?_cons_succ, List.getElem?_cons_zero]; rfl) (by rfl) (by rfl) (fun K_ hK_ => ?_); go_big_quiet_op; refine hK_ _ ?_; clear hK_ K_)
        (refine tree_quiet (by simp only [List.getElem?_toArray, List.getElem?_cons_succ, List.getElem?_cons_zero]; rfl) (by rfl) (by rfl) (fun K_ hK_ => ?_); go_big_quiet_op; refine hK_ _ ?_; clear hK_ K_)
        (refine tree_quiet (by simp only [List.getElem?_toArray, List.getElem?_cons_succ, List.getElem?_cons_zero]; rfl) (by rfl) (by rfl) (fun K_ hK_ => ?_); go_big_quiet_op; refine hK_ _ ?_; clear hK_ K_)
        (refine tree_quiet (by simp only [List.getElem?_toArray, List.getElem?_cons_succ, List.getElem?_cons_zero]; rfl) (by rfl) (by rfl) (fun K_ hK_ => ?_); go_big_quiet_op; refine hK_ _ ?_; clear hK_ K_)
        (refine tree_quiet (by simp only [List.getElem?_toArray, List.getElem?_cons_succ, List.getElem?_cons_zero]; rfl) (by rfl) (by rfl) (fun K_ hK_ => ?_); go_big_quiet_op; refine hK_ _ ?_; clear hK_ K_)
        (refine tree_quiet (by simp only [List.getElem?_toArray, List.getElem?_cons_succ, List.getElem?_cons_zero]; rfl) (by rfl) (by rfl) (fun K_ hK_ => ?_); go_big_quiet_op; refine hK_ _ ?_; clear hK_ K_)
        (refine tree_quiet (by simp only [List.getElem?_toArray, List.getElem?_cons_succ, List.getElem?_cons_zero]; rfl) (by rfl) (by rfl) (fun K_ hK_ => ?_); go_big_quiet_op; refine hK_ _ ?_; clear hK_ K_)
        (refine tree_quiet (by simp only [List.getElem?_toArray, List.getElem?_cons_succ, List.getElem?_cons_zero]; rfl) (by rfl) (by rfl) (fun K_ hK_ => ?_); go_big_quiet_op; refine hK_ _ ?_; clear hK_ K_)
        (refine tree_quiet (by simp only [List.getElem?_toArray, List.getElem?_cons_succ, List.getElem?_cons_zero]; rfl) (by rfl) (by rfl) (fun K_ hK_ => ?_); go_big_quiet_op; refine hK_ _ ?_; clear hK_ K_)
        (refine tree_quiet (by simp only [List.getElem?_toArray, List.getElem?_cons_succ, List.getElem?_cons_zero]; rfl) (by rfl) (by rfl) (fun K_ hK_ => ?_); go_big_quiet_op; refine hK_ _ ?_; clear hK_ K_)
        (refine tree_quiet (by simp only [List.getElem?_toArray, List.getElem?_cons_succ, List.getElem?_cons_zero]; rfl) (by rfl) (by rfl) (fun K_ hK_ => ?_); go_big_quiet_op; refine hK_ _ ?_; clear hK_ K_)
        (refine tree_quiet (by simp only [List.getElem?_toArray, List.getElem?_cons_succ, List.getElem?_cons_zero]; rfl) (by rfl) (by rfl) (fun K_ hK_ => ?_); go_big_quiet_op; refine hK_ _ ?_; clear hK_ K_)
        (refine tree_quiet (by simp only [List.getElem?_toArray, List.getElem?_cons_succ, List.getElem?_cons_zero]; rfl) (by rfl) (by rfl) (fun K_ hK_ => ?_); go_big_quiet_op; refine hK_ _ ?_; clear hK_ K_)
        (refine tree_quiet (by simp only [List.getElem?_toArray, List.getElem?_cons_succ, List.getElem?_cons_zero]; rfl) (by rfl) (by rfl) (fun K_ hK_ => ?_); go_big_quiet_op; refine hK_ _ ?_; clear hK_ K_)
        (refine tree_quiet (by simp only [List.getElem?_toArray, List.getElem?_cons_succ, List.getElem?_cons_zero]; rfl) (by rfl) (by rfl) (fun K_ hK_ => ?_); go_big_quiet_op; refine hK_ _ ?_; clear hK_ K_)
        (refine tree_quiet (by simp only [List.getElem?_toArray, List.getElem?_cons_succ, List.getElem?_cons_zero]; rfl) (by rfl) (by rfl) (fun K_ hK_ => ?_); go_big_quiet_op; refine hK_ _ ?_; clear hK_ K_)
        (refine tree_quiet (by simp only [List.getElem?_toArray, List.getElem?_cons_succ, List.getElem?_cons_zero]; rfl) (by rfl) (by rfl) (fun K_ hK_ => ?_); go_big_quiet_op; refine hK_ _ ?_; clear hK_ K_)
        refine tree_two (by simp only [List.getElem?_toArray, List.getElem?_cons_succ, List.getElem?_cons_zero]; rfl) (by simp only [List.getElem?_toArray, List.getElem?_cons_succ, List.getElem?_cons_zero]; rfl) (by rfl) (by rfl) (fun K_ hK_ => ?_) (fun K_ hK_ => ?_)
        · have HK_ := Lib.hid hK_; clear hK_; go_wp2_with (first | (go_at_call 62; (with_reducible refine (HU2.out _ (HHR.out.below (by exact (by repeat (first | exact brefl _ | assumption | refine balloc ?_ _ | refine bdrew ?_ _ | refine bdrew1 ?_ | refine bthen ?_ (by assumption) | refine Below.trans ?_ (by assumption) | (refine bset ?_ (by first | (simp; done) | (simp; omega)) _)))))).mono ?_); rintro e w_ ⟨rfl, rfl⟩) | (go_at_call 62; (with_reducible refine (HU0.out _ (HHR.out.below (by exact (by repeat (first | exact brefl _ | assumption | refine balloc ?_ _ | refine bdrew ?_ _ | refine bdrew1 ?_ | refine bthen ?_ (by assumption) | refine Below.trans ?_ (by assumption) | (refine bset ?_ (by first | (simp; done) | (simp; omega)) _)))))).mono ?_); rintro e w_ ⟨rfl, rfl⟩)); refine HK_.out _ _ (wld_of (by repeat (first | exact same_below (brefl _) | exact same_realloc (by simp) | exact same_below (bdrew1 (brefl _)) | assumption | refine same_drew ?_ | refine same_then ?_ (by assumption) | refine same_alloc ?_ _ | (refine same_set ?_ (by first | (left; simp; done) | (right; simp; done) | (right; simp; omega)) _)))) ?_; clear HK_
          refine tree_two (by simp only [List.getElem?_toArray, List.getElem?_cons_succ, List.getElem?_cons_zero]; rfl) (by simp only [List.getElem?_toArray, List.getElem?_cons_succ, List.getElem?_cons_zero]; rfl) (by rfl) (by rfl) (fun K_ hK_ => ?_) (fun K_ hK_ => ?_)
          · have HK_ := Lib.hid hK_; clear hK_; go_wp2_with (first | (go_at_call 62; (with_reducible refine (HU2.out _ (HHR.out.below (by exact (by repeat (first | exact brefl _ | assumption | refine balloc ?_ _ | refine bdrew ?_ _ | refine bdrew1 ?_ | refine bthen ?_ (by assumption) | refine Below.trans ?_ (by assumption) | (refine bset ?_ (by first | (simp; done) | (simp; omega)) _)))))).mono ?_); rintro e w_ ⟨rfl, rfl⟩) | (go_at_call 62; (with_reducible refine (HU0.out _ (HHR.out.below (by exact (by repeat (first | exact brefl _ | assumption | refine balloc ?_ _ | refine bdrew ?_ _ | refine bdrew1 ?_ | refine bthen ?_ (by assumption) | refine Below.trans ?_ (by assumption) | (refine bset ?_ (by first | (simp; done) | (simp; omega)) _)))))).mono ?_); rintro e w_ ⟨rfl, rfl⟩)); refine HK_.out _ _ (wld_of (by repeat (first | exact same_below (brefl _) | exact same_realloc (by simp) | exact same_below (bdrew1 (brefl _)) | assumption | refine same_drew ?_ | refine same_then ?_ (by assumption) | refine same_alloc ?_ _ | (refine same_set ?_ (by first | (left; simp; done) | (right; simp; done) | (right; simp; omega)) _)))) ?_; clear HK_
            (refine tree_quiet (by simp only [List.getElem?_toArray, List.getElem?_cons_succ, List.getElem?_cons_zero]; rfl) (by rfl) (by rfl) (fun K_ hK_ => ?_); go_big_quiet_op; refine hK_ _ ?_; clear hK_ K_)
            (refine tree_run (by simp only [List.getElem?_toArray, List.getElem?_cons_succ, List.getElem?_cons_zero]; rfl) (by rfl) (by rfl) (fun K_ hK_ => ?_); have HK_ := Lib.hid hK_; clear hK_; go_wp2_with (first | (go_at_call 62; (with_reducible refine (HU2.out _ (HHR.out.below (by exact (by repeat (first | exact brefl _ | assumption | refine balloc ?_ _ | refine bdrew ?_ _ | refine bdrew1 ?_ | refine bthen ?_ (by assumption) | refine Below.trans ?_ (by assumption) | (refine bset ?_ (by first | (simp; done) | (simp; omega)) _)))))).mono ?_); rintro e w_ ⟨rfl, rfl⟩) | (go_at_call 62; (with_reducible refine (HU0.out _ (HHR.out.below (by exact (by repeat (first | exact brefl _ | assumption | refine balloc ?_ _ | refine bdrew ?_ _ | refine bdrew1 ?_ | refine bthen ?_ (by assumption) | refine Below.trans ?_ (by assumption) | (refine bset ?_ (by first | (simp; done) | (simp; omega)) _)))))).mono ?_); rintro e w_ ⟨rfl, rfl⟩)); refine HK_.out _ _ (wld_of (by repeat (first | exact same_below (brefl _) | exact same_realloc (by simp) | exact same_below (bdrew1 (brefl _)) | assumption | refine same_drew ?_ | refine same_then ?_ (by assumption) | refine same_alloc ?_ _ | (refine same_set ?_ (by first | (left; simp; done) | (right; simp; done) | (right; simp; omega)) _)))) ?_; clear HK_)
            (refine tree_run (by simp only [List.getElem?_toArray, List.getElem?_cons_succ, List.getElem?_cons_zero]; rfl) (by rfl) (by rfl) (fun K_ hK_ => ?_); have HK_ := Lib.hid hK_; clear hK_; go_wp2_with (first | (go_at_call 62; (with_reducible refine (HU2.out _ (HHR.out.below (by exact (by repeat (first | exact brefl _ | assumption | refine balloc ?_ _ | refine bdrew ?_ _ | refine bdrew1 ?_ | refine bthen ?_ (by assumption) | refine Below.trans ?_ (by assumption) | (refine bset ?_ (by first | (simp; done) | (simp; omega)) _)))))).mono ?_); rintro e w_ ⟨rfl, rfl⟩) | (go_at_call 62; (with_reducible refine (HU0.out _ (HHR.out.below (by exact (by repeat (first | exact brefl _ | assumption | refine balloc ?_ _ | refine bdrew ?_ _ | refine bdrew1 ?_ | refine bthen ?_ (by assumption) | refine Below.trans ?_ (by assumption) | (refine bset ?_ (by first | (simp; done) | (simp; omega)) _)))))).mono ?_); rintro e w_ ⟨rfl, rfl⟩)); refine HK_.out _ _ (wld_of (by repeat (first | exact same_below (brefl _) | exact same_realloc (by simp) | exact same_below (bdrew1 (brefl _)) | assumption | refine same_drew ?_ | refine same_then ?_ (by assumption) | refine same_alloc ?_ _ | (refine same_set ?_ (by first | (left; simp; done) | (right; simp; done) | (right; simp; omega)) _)))) ?_; clear HK_)
            refine tree_nil ?_
            refine leaf_any 14 [] (fun gp V => Below wr.heap.size wr V ∧ wr.heap.size ≤ gp ∧ gp < V.heap.size ∧ V.heap[gp]? = some (.cells #[.int .i64 (f1 : Nat), .int .i64 (f2 : Nat), .int .i64 ((p : Int) + 4), .int .i64 (S : Nat), .int .i64 0] 87 (0, 0))) _ (by rfl) (by first | (simp only [blank, List.setIfInBounds_toArray, List.set_cons_succ, List.set_cons_zero]; rfl) | simp only [blank, List.setIfInBounds_toArray, List.set_cons_succ, List.set_cons_zero]) (hfin_ ()) ?_
            exact ⟨(by repeat (first | exact brefl _ | assumption | refine balloc ?_ _ | refine bdrew ?_ _ | refine bdrew1 ?_ | refine bthen ?_ (by assumption) | refine Below.trans ?_ (by assumption) | (refine bset ?_ (by first | (simp; done) | (simp; omega)) _))), Nat.le_refl _, (by simp), (by show (wr.alloc _).heap[wr.heap.size]? = _; rw [heap_push, if_pos rfl])⟩
          · have HK_ := Lib.hid hK_; clear hK_; go_wp2_with (first | (go_at_call 62; (with_reducible refine (HU2.out _ (HHR.out.below (by exact (by repeat (first | exact brefl _ | assumption | refine balloc ?_ _ | refine bdrew ?_ _ | refine bdrew1 ?_ | refine bthen ?_ (by assumption) | refine Below.trans ?_ (by assumption) | (refine bset ?_ (by first | (simp; done) | (simp; omega)) _)))))).mono ?_); rintro e w_ ⟨rfl, rfl⟩) | (go_at_call 62; (with_reducible refine (HU0.out _ (HHR.out.below (by exact (by repeat (first | exact brefl _ | assumption | refine balloc ?_ _ | refine bdrew ?_ _ | refine bdrew1 ?_ | refine bthen ?_ (by assumption) | refine Below.trans ?_ (by assumption) | (refine bset ?_ (by first | (simp; done) | (simp; omega)) _)))))).mono ?_); rintro e w_ ⟨rfl, rfl⟩)); refine HK_.out _ _ (wld_of (by repeat (first | exact same_below (brefl _) | exact same_realloc (by simp) | exact same_below (bdrew1 (brefl _)) | assumption | refine same_drew ?_ | refine same_then ?_ (by assumption) | refine same_alloc ?_ _ | (refine same_set ?_ (by first | (left; simp; done) | (right; simp; done) | (right; simp; omega)) _)))) ?_; clear HK_
            (refine tree_run (by simp only [List.getElem?_toArray, List.getElem?_cons_succ, List.getElem?_cons_zero]; rfl) (by rfl) (by rfl) (fun K_ hK_ => ?_); have HK_ := Lib.hid hK_; clear hK_; go_wp2_with (first | (go_at_call 62; (with_reducible refine (HU2.out _ (HHR.out.below (by exact (by repeat (first | exact brefl _ | assumption | refine balloc ?_ _ | refine bdrew ?_ _ | refine bdrew1 ?_ | refine bthen ?_ (by assumption) | refine Below.trans ?_ (by assumption) | (refine bset ?_ (by first | (simp; done) | (simp; omega)) _)))))).mono ?_); rintro e w_ ⟨rfl, rfl⟩) | (go_at_call 62; (with_reducible refine (HU0.out _ (HHR.out.below (by exact (by repeat (first | exact brefl _ | assumption | refine balloc ?_ _ | refine bdrew ?_ _ | refine bdrew1 ?_ | refine bthen ?_ (by assumption) | refine Below.trans ?_ (by assumption) | (refine bset ?_ (by first | (simp; done) | (simp; omega)) _)))))).mono ?_); rintro e w_ ⟨rfl, rfl⟩)); refine HK_.out _ _ (wld_of (by repeat (first | exact same_below (brefl _) | exact same_realloc (by simp) | exact same_below (bdrew1 (brefl _)) | assumption | refine same_drew ?_ | refine same_then ?_ (by assumption) | refine same_alloc ?_ _ | (refine same_set ?_ (by first | (left; simp; done) | (right; simp; done) | (right; simp; omega)) _)))) ?_; clear HK_)
            (refine tree_quiet (by simp only [List.getElem?_toArray, List.getElem?_cons_succ, List.getElem?_cons_zero]; rfl) (by rfl) (by rfl) (fun K_ hK_ => ?_); go_big_quiet_op; refine hK_ _ ?_; clear hK_ K_)
            (refine tree_run (by simp only [List.getElem?_toArray, List.getElem?_cons_succ, List.getElem?_cons_zero]; rfl) (by rfl) (by rfl) (fun K_ hK_ => ?_); have HK_ := Lib.hid hK_; clear hK_; go_wp2_with (first | (go_at_call 62; (with_reducible refine (HU2.out _ (HHR.out.below (by exact (by repeat (first | exact brefl _ | assumption | refine balloc ?_ _ | refine bdrew ?_ _ | refine bdrew1 ?_ | refine bthen ?_ (by assumption) | refine Below.trans ?_ (by assumption) | (refine bset ?_ (by first | (simp; done) | (simp; omega)) _)))))).mono ?_); rintro e w_ ⟨rfl, rfl⟩) | (go_at_call 62; (with_reducible refine (HU0.out _ (HHR.out.below (by exact (by repeat (first | exact brefl _ | assumption | refine balloc ?_ _ | refine bdrew ?_ _ | refine bdrew1 ?_ | refine bthen ?_ (by assumption) | refine Below.trans ?_ (by assumption) | (refine bset ?_ (by first | (simp; done) | (simp; omega)) _)))))).mono ?_); rintro e w_ ⟨rfl, rfl⟩)); refine HK_.out _ _ (wld_of (by repeat (first | exact same_below (brefl _) | exact same_realloc (by simp) | exact same_below (bdrew1 (brefl _)) | assumption | refine same_drew ?_ | refine same_then ?_ (by assumption) | refine same_alloc ?_ _ | (refine same_set ?_ (by first | (left; simp; done) | (right; simp; done) | (right; simp; omega)) _)))) ?_; clear HK_)
            refine tree_nil ?_
            refine leaf_any 14 [] (fun gp V => Below wr.heap.size wr V ∧ wr.heap.size ≤ gp ∧ gp < V.heap.size ∧ V.heap[gp]? = some (.cells #[.int .i64 (f1 : Nat), .int .i64 (f2 : Nat), .int .i64 ((p : Int) + 4), .int .i64 (S : Nat), .int .i64 0] 87 (0, 0))) _ (by rfl) (by first | (simp only [blank, List.setIfInBounds_toArray, List.set_cons_succ, List.set_cons_zero]; rfl) | simp only [blank, List.setIfInBounds_toArray, List.set_cons_succ, List.set_cons_zero]) (hfin_ ()) ?_
            exact ⟨(by repeat (first | exact brefl _ | assumption | refine balloc ?_ _ | refine bdrew ?_ _ | refine bdrew1 ?_ | refine bthen ?_ (by assumption) | refine Below.trans ?_ (by assumption) | (refine bset ?_ (by first | (simp; done) | (simp; omega)) _))), Nat.le_refl _, (by simp), (by show (wr.alloc _).heap[wr.heap.size]? = _; rw [heap_push, if_pos rfl])⟩
        · have HK_ := Lib.hid hK_; clear hK_; go_wp2_with (first | (go_at_call 62; (with_reducible refine (HU2.out _ (HHR.out.below (by exact (by repeat (first | exact brefl _ | assumption | refine balloc ?_ _ | refine bdrew ?_ _ | refine bdrew1 ?_ | refine bthen ?_ (by assumption) | refine Below.trans ?_ (by assumption) | (refine bset ?_ (by first | (simp; done) | (simp; omega)) _)))))).mono ?_); rintro e w_ ⟨rfl, rfl⟩) | (go_at_call 62; (with_reducible refine (HU0.out _ (HHR.out.below (by exact (by repeat (first | exact brefl _ | assumption | refine balloc ?_ _ | refine bdrew ?_ _ | refine bdrew1 ?_ | refine bthen ?_ (by assumption) | refine Below.trans ?_ (by assumption) | (refine bset ?_ (by first | (simp; done) | (simp; omega)) _)))))).mono ?_); rintro e w_ ⟨rfl, rfl⟩)); refine HK_.out _ _ (wld_of (by repeat (first | exact same_below (brefl _) | exact same_realloc (by simp) | exact same_below (bdrew1 (brefl _)) | assumption | refine same_drew ?_ | refine same_then ?_ (by assumption) | refine same_alloc ?_ _ | (refine same_set ?_ (by first | (left; simp; done) | (right; simp; done) | (right; simp; omega)) _)))) ?_; clear HK_
          (refine tree_run (by simp only [List.getElem?_toArray, List.getElem?_cons_succ, List.getElem?_cons_zero]; rfl) (by rfl) (by rfl) (fun K_ hK_ => ?_); have HK_ := Lib.hid hK_; clear hK_; go_wp2_with (first | (go_at_call 62; (with_reducible refine (HU2.out _ (HHR.out.below (by exact (by repeat (first | exact brefl _ | assumption | refine balloc ?_ _ | refine bdrew ?_ _ | refine bdrew1 ?_ | refine bthen ?_ (by assumption) | refine Below.trans ?_ (by assumption) | (refine bset ?_ (by first | (simp; done) | (simp; omega)) _)))))).mono ?_); rintro e w_ ⟨rfl, rfl⟩) | (go_at_call 62; (with_reducible refine (HU0.out _ (HHR.out.below (by exact (by repeat (first | exact brefl _ | assumption | refine balloc ?_ _ | refine bdrew ?_ _ | refine bdrew1 ?_ | refine bthen ?_ (by assumption) | refine Below.trans ?_ (by assumption) | (refine bset ?_ (by first | (simp; done) | (simp; omega)) _)))))).mono ?_); rintro e w_ ⟨rfl, rfl⟩)); refine HK_.out _ _ (wld_of (by repeat (first | exact same_below (brefl _) | exact same_realloc (by simp) | exact same_below (bdrew1 (brefl _)) | assumption | refine same_drew ?_ | refine same_then ?_ (by assumption) | refine same_alloc ?_ _ | (refine same_set ?_ (by first | (left; simp; done) | (right; simp; done) | (right; simp; omega)) _)))) ?_; clear HK_)
          (refine tree_run (by simp only [List.getElem?_toArray, List.getElem?_cons_succ, List.getElem?_cons_zero]; rfl) (by rfl) (by rfl) (fun K_ hK_ => ?_); have HK_ := Lib.hid hK_; clear hK_; go_wp2_with (first | (go_at_call 62; (with_reducible refine (HU2.out _ (HHR.out.below (by exact (by repeat (first | exact brefl _ | assumption | refine balloc ?_ _ | refine bdrew ?_ _ | refine bdrew1 ?_ | refine bthen ?_ (by assumption) | refine Below.trans ?_ (by assumption) | (refine bset ?_ (by first | (simp; done) | (simp; omega)) _)))))).mono ?_); rintro e w_ ⟨rfl, rfl⟩) | (go_at_call 62; (with_reducible refine (HU0.out _ (HHR.out.below (by exact (by repeat (first | exact brefl _ | assumption | refine balloc ?_ _ | refine bdrew ?_ _ | refine bdrew1 ?_ | refine bthen ?_ (by assumption) | refine Below.trans ?_ (by assumption) | (refine bset ?_ (by first | (simp; done) | (simp; omega)) _)))))).mono ?_); rintro e w_ ⟨rfl, rfl⟩)); refine HK_.out _ _ (wld_of (by repeat (first | exact same_below (brefl _) | exact same_realloc (by simp) | exact same_below (bdrew1 (brefl _)) | assumption | refine same_drew ?_ | refine same_then ?_ (by assumption) | refine same_alloc ?_ _ | (refine same_set ?_ (by first | (left; simp; done) | (right; simp; done) | (right; simp; omega)) _)))) ?_; clear HK_)
          (refine tree_quiet (by simp only [List.getElem?_toArray, List.getElem?_cons_succ, List.getElem?_cons_zero]; rfl) (by rfl) (by rfl) (fun K_ hK_ => ?_); go_big_quiet_op; refine hK_ _ ?_; clear hK_ K_)
          (refine tree_run (by simp only [List.getElem?_toArray, List.getElem?_cons_succ, List.getElem?_cons_zero]; rfl) (by rfl) (by rfl) (fun K_ hK_ => ?_); have HK_ := Lib.hid hK_; clear hK_; go_wp2_with (first | (go_at_call 62; (with_reducible refine (HU2.out _ (HHR.out.below (by exact (by repeat (first | exact brefl _ | assumption | refine balloc ?_ _ | refine bdrew ?_ _ | refine bdrew1 ?_ | refine bthen ?_ (by assumption) | refine Below.trans ?_ (by assumption) | (refine bset ?_ (by first | (simp; done) | (simp; omega)) _)))))).mono ?_); rintro e w_ ⟨rfl, rfl⟩) | (go_at_call 62; (with_reducible refine (HU0.out _ (HHR.out.below (by exact (by repeat (first | exact brefl _ | assumption | refine balloc ?_ _ | refine bdrew ?_ _ | refine bdrew1 ?_ | refine bthen ?_ (by assumption) | refine Below.trans ?_ (by assumption) | (refine bset ?_ (by first | (simp; done) | (simp; omega)) _)))))).mono ?_); rintro e w_ ⟨rfl, rfl⟩)); refine HK_.out _ _ (wld_of (by repeat (first | exact same_below (brefl _) | exact same_realloc (by simp) | exact same_below (bdrew1 (brefl _)) | assumption | refine same_drew ?_ | refine same_then ?_ (by assumption) | refine same_alloc ?_ _ | (refine same_set ?_ (by first | (left; simp; done) | (right; simp; done) | (right; simp; omega)) _)))) ?_; clear HK_)
          refine tree_nil ?_
          refine leaf_any 14 [] (fun gp V => Below wr.heap.size wr V ∧ wr.heap.size ≤ gp ∧ gp < V.heap.size ∧ V.heap[gp]? = some (.cells #[.int .i64 (f1 : Nat), .int .i64 (f2 : Nat), .int .i64 ((p : Int) + 4), .int .i64 (S : Nat), .int .i64 0] 87 (0, 0))) _ (by rfl) (by first | (simp only [blank, List.setIfInBounds_toArray, List.set_cons_succ, List.set_cons_zero]; rfl) | simp only [blank, List.setIfInBounds_toArray, List.set_cons_succ, List.set_cons_zero]) (hfin_ ()) ?_
          exact ⟨(by repeat (first | exact brefl _ | assumption | refine balloc ?_ _ | refine bdrew ?_ _ | refine bdrew1 ?_ | refine bthen ?_ (by assumption) | refine Below.trans ?_ (by assumption) | (refine bset ?_ (by first | (simp; done) | (simp; omega)) _))), Nat.le_refl _, (by simp), (by show (wr.alloc _).heap[wr.heap.size]? = _; rw [heap_push, if_pos rfl])⟩
      intro gp x V ⟨hV, _, hgp2, hgp⟩
      simp only [fill, List.setIfInBounds_toArray, List.set_cons_succ, List.set_cons_zero]
      have p0 := cell_of_heap hgp 0
      have p1 := cell_of_heap hgp 1
      have p2 := cell_of_heap hgp 2
      have p3 := cell_of_heap hgp 3
      have p4 := cell_of_heap hgp 4
      simp only [List.getElem?_toArray, List.getElem?_cons_succ, List.getElem?_cons_zero] at p0 p1 p2 p3 p4
      have HVV := Lib.hid hV
      have hzV := hV.size
      have hz2 : w2.heap.size ≤ wr.heap.size := HBR.out.size
      clear hV hgp hcw hcr
      go_wp2_with (first | (at_builtin; refine wpAppL rfl _ _ 28 rfl w2.heap.size 87 (.agg #[.int .i64 0, .int .i64 0, .int .i64 0, .int .i64 0, .int .i64 0]) 5 40 Try.underlying28 rp_info rfl (by decide) _ k (encRs (rs.take k)) rfl (owns_below HOW.out (balloc HVV.out _) (Nat.le_refl _)) ⟨V.heap.size, 0, none⟩ 1 1 [.int .i64 (f1 : Nat), .int .i64 (f2 : Nat), .int .i64 ((p : Int) + 4), .int .i64 (S : Nat), .int .i64 0] rfl rfl (has_alloc _ _ _) (fun u hu => by simp at hu; rcases hu with rfl | rfl | rfl | rfl | rfl <;> rfl) (by unfold maxLen; omega) (by omega) (by simp; omega) ?_; intro a4 c4 w4 hown4 t41 t42 t43 hb4 hg4; have HO4 := Lib.hid hown4; have HB4 := Lib.hid hb4; have hz4 := hg4.size; clear hown4 hb4 hg4 t43; (try dsimp only [Act.put]); (try simp only [List.setIfInBounds_toArray, List.set_cons_succ, List.set_cons_zero])))
      have HT4 := Lib.hid (show encRs (rs.take k) ++ [.int .i64 (f1 : Nat), .int .i64 (f2 : Nat), .int .i64 ((p : Int) + 4), .int .i64 (S : Nat), .int .i64 0] = encRs (rs.take (k + 1)) from by rw [List.take_add_one, HRK.out]; show _ = encRs (_ ++ [_]); rw [← encRs_snoc]; simp [encR])
      have HB5 := Lib.hid (HBR.out.trans ((HVV.out.mono hz2).trans (((Below.refl w2.heap.size V).alloc (by omega) _).trans HB4.out)))
      go_roundw
      case rel => exact ⟨rfl, k + 1, a4, c4, by rw [HLEN.out]; exact HLT.out, by go_num, rfl, by rw [← HT4.out]; exact HO4.out, t41, t42, HB5.out⟩
      case measure => simp [intOf]; have := HLT.out; omega
    · obtain rfl : k = M := by omega
      go_wp2_with fail
      go_ret2
      have ht := HOW.out
      rw [List.take_of_length_le (by rw [HLEN.out]; exact Nat.le_refl _)] at ht
      exact ⟨⟨rs, true, a3, c3, by rw [HLEN.out]; rfl, has_of_owns ht, by rw [HLEN.out]; exact o1, o2, by rw [HLEN.out]; exact hM7, fun _ => ⟨HOK.out, by rw [HMM.out]; exact HRE.out.symm⟩, fun hx => (by cases hx)⟩, HBX.out⟩
end Go.Proofs.Ytajhljgcbafbcaa
