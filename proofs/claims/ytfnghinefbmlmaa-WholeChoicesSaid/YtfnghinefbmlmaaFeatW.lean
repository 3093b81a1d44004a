
/- The statement's own Write of features. Conditions: no more than thirty, of no more than sixty settings each; numbers of two bytes. -/
import Derived.Test.YtfnghinefbmlmaaPutF
import Derived.Test.YtfnghinefbmlmaaU16s
namespace Go.Proofs.Ytfnghinefbmlmaa
open Go.RowKit Go.Lib

theorem kept_ofA {W W' : World} (h : Kept W W' := by repeat (first | exact Kept.refl _ | assumption | refine Kept.trans ?_ (Kept.below (bdrew1 (brefl _))) | refine Kept.trans ?_ (Kept.below (balloc (brefl _) _)) | refine Kept.trans ?_ (by assumption))) : ∃ p : KeptW W, W' = p.val := kept_of h
structure PlanF where
  ty : Nat
  fl : Nat
  a : Option Addr
  c : Nat
  ss : List Nat
def PlanF.enc (p : PlanF) : List Value := [.int .u16 (p.ty : Nat), .int .u16 (p.fl : Nat), .slice p.a p.ss.length p.c]
def plansF (ps : List PlanF) : List Value := ps.flatMap PlanF.enc
theorem plansF_cons (p : PlanF) (ps : List PlanF) : plansF (p :: ps) = p.enc ++ plansF ps := rfl
theorem plansF_get : ∀ (ps : List PlanF) (k : Nat) (p : PlanF), ps[k]? = some p → ∀ o, o < 3 → (plansF ps)[k * 3 + o]? = p.enc[o]?
  | [], _, _, h, _, _ => by simp at h
  | x :: ps, 0, p, h, o, ho => by
    simp at h; subst h
    rw [plansF_cons, Nat.zero_mul, Nat.zero_add, List.getElem?_append_left (by simpa [PlanF.enc] using ho)]
  | x :: ps, k + 1, p, h, o, ho => by
    have := plansF_get ps k p (by simpa using h) o ho
    rw [plansF_cons, List.getElem?_append_right (by simp [PlanF.enc]; omega), show (k + 1) * 3 + o - (x.enc).length = k * 3 + o by simp [PlanF.enc]; omega, this]
def n16V (ss : List Nat) : List Value := ss.map fun s => .int .u16 (s : Nat)
def rowBy (n off : Nat) (p : PlanF) : List UInt8 := beN 2 p.ty ++ beN 2 p.ss.length ++ beN 4 (12 + 12 * n + off) ++ beN 2 p.fl ++ beN 2 7
def setBy (ss : List Nat) : List UInt8 := ss.flatMap fun s => beN 2 s ++ beN 2 9
theorem setBy_length (ss : List Nat) : (setBy ss).length = 4 * ss.length := by
  induction ss with
  | nil => rfl
  | cons s ss ih => simp only [setBy, List.flatMap_cons, List.length_append, beN_length, List.length_cons] at ih ⊢; omega
theorem setBy_snoc (ss : List Nat) (s : Nat) : setBy (ss ++ [s]) = setBy ss ++ beN 2 s ++ beN 2 9 := by simp [setBy]
def headF (n : Nat) : List UInt8 := beN 4 65536 ++ beN 2 n ++ [0, 0, 0, 0, 0, 0]
def setsF (ps : List PlanF) : List UInt8 := ps.flatMap fun p => setBy p.ss
def rowsW (n : Nat) : Nat → List PlanF → List UInt8
  | _, [] => []
  | off, p :: ps => rowBy n off p ++ rowsW n (off + 4 * p.ss.length) ps
theorem setsF_snoc (ps : List PlanF) (p : PlanF) : setsF (ps ++ [p]) = setsF ps ++ setBy p.ss := by simp [setsF]
theorem setsF_cons (p : PlanF) (ps : List PlanF) : setsF (p :: ps) = setBy p.ss ++ setsF ps := rfl
theorem rowsW_snoc (n : Nat) (p : PlanF) : ∀ (ps : List PlanF) (off : Nat), rowsW n off (ps ++ [p]) = rowsW n off ps ++ rowBy n (off + (setsF ps).length) p
  | [], off => by simp [rowsW, setsF]
  | q :: ps, off => by rw [List.cons_append, rowsW, rowsW_snoc n p ps, rowsW, List.append_assoc, setsF_cons, List.length_append, setBy_length, Nat.add_assoc]
theorem rowBy_length (n off : Nat) (p : PlanF) : (rowBy n off p).length = 12 := by simp [rowBy, beN_length]
theorem rowsW_length (n : Nat) : ∀ (ps : List PlanF) (off : Nat), (rowsW n off ps).length = 12 * ps.length
  | [], _ => rfl
  | q :: ps, off => by rw [rowsW, List.length_append, rowsW_length n ps, rowBy_length, List.length_cons]; omega
theorem setsF_le (ps : List PlanF) (h : ∀ p ∈ ps, p.ss.length ≤ 60) : (setsF ps).length ≤ 240 * ps.length := by
  induction ps with
  | nil => simp [setsF]
  | cons p ps ih =>
    have h1 := h p (by simp)
    have h2 := ih (fun q hq => h q (by simp [hq]))
    rw [setsF_cons, List.length_append, setBy_length, List.length_cons]
    omega
def writeF (ps : List PlanF) : List UInt8 := headF ps.length ++ rowsW ps.length 0 ps ++ setsF ps
theorem putB {B : Nat} {W : World} {aB aS : Option Addr} {nB cB nS cS : Nat} {xB xS : List UInt8} (h : Two B W aB nB cB xB aS nS cS xS) (hB : B ≤ W.heap.size) (v size m : Nat) (z y : Int) (hz : z = (v : Nat)) (hy : y = (size : Nat)) (hm : nB + size = m) (hv : v < 9223372036854775808) (hn : nB ≤ 1000000000) (hs : size ≤ 8) :
    Calls Try.prog 31 #[.slice aB nB cB, .int .i64 z, .int .i64 y] W fun e w' => ∃ a' c', e = .returned (.slice a' m c') ∧ Two B w' a' m c' (xB ++ beN size v) aS nS cS xS ∧ Below B W w' ∧ Kept W w' := by
  subst hm
  refine (put_z B aB nB cB v size z y hz hy xB W h.o1 hB hv hn hs).mono ?_
  rintro e w' ⟨a', c', rfl, ho, _, _, _, hb, hk, hf⟩
  exact ⟨a', c', rfl, h.put1 hf ho, hb, hk⟩
theorem putS {B : Nat} {W : World} {aB aS : Option Addr} {nB cB nS cS : Nat} {xB xS : List UInt8} (h : Two B W aB nB cB xB aS nS cS xS) (hB : B ≤ W.heap.size) (v size m : Nat) (z y : Int) (hz : z = (v : Nat)) (hy : y = (size : Nat)) (hm : nS + size = m) (hv : v < 9223372036854775808) (hn : nS ≤ 1000000000) (hs : size ≤ 8) :
    Calls Try.prog 31 #[.slice aS nS cS, .int .i64 z, .int .i64 y] W fun e w' => ∃ a' c', e = .returned (.slice a' m c') ∧ Two B w' aB nB cB xB a' m c' (xS ++ beN size v) ∧ Below B W w' ∧ Kept W w' := by
  subst hm
  refine (put_z B aS nS cS v size z y hz hy xS W h.o2 hB hv hn hs).mono ?_
  rintro e w' ⟨a', c', rfl, ho, _, _, _, hb, hk, hf⟩
  exact ⟨a', c', rfl, h.put2 hf ho, hb, hk⟩
structure PlansOk (ps : List PlanF) (w : World) : Prop where
  few : ps.length ≤ 30
  each : ∀ p ∈ ps, p.ty ≤ 65535 ∧ p.fl ≤ 65535 ∧ p.ss.length ≤ 60 ∧ (∀ s ∈ p.ss, s ≤ 65535) ∧ Has w p.a (n16V p.ss)
def WRelF (w : World) (n : Nat) (ps : List PlanF) (b s i : Value) (wr : World) : Prop :=
  ∃ k aB cB aS cS, k ≤ n ∧ i = .int .i64 (k : Nat) ∧ b = .slice aB (12 + 12 * k) cB ∧ s = .slice aS (setsF (ps.take k)).length cS ∧ Two w.heap.size wr aB (12 + 12 * k) cB (headF n ++ rowsW n 0 (ps.take k)) aS (setsF (ps.take k)).length cS (setsF (ps.take k)) ∧ Below w.heap.size w wr
set_option maxRecDepth 100000 in
set_option maxHeartbeats 3200000 in
theorem write8_any (la : Option Addr) (n lc : Nat) (ps : List PlanF) (w : World) (h : Has w la (plansF ps)) (hl : ps.length = n) (hok : PlansOk ps w) :
    Calls Try.prog 13 #[.slice la n lc] w fun e w' => ∃ a' c', e = .returned (.slice a' (writeF ps).length c') ∧ w'.ownsRow w.heap.size 5 1 (.slice a' (writeF ps).length c') (writeF ps).length (bytesV (writeF ps)) ∧ Below w.heap.size w w' := by
  have hAC := allocC
  have hAF := allocF
  have hn30 := hok.few
  rw [hl] at hn30
  have HH := Lib.hid h
  have HL := Lib.hid hl
  have HOK := Lib.hid hok
  clear h hl hok
  go_enter Try.func13, Try.ntmps13
  go_wp2_with fail
  refine (putB (B := w.heap.size) (aB := none) (aS := none) (nB := 0) (cB := 0) (nS := 0) (cS := 0) (xB := []) (xS := []) (W := w) ⟨⟨rfl, .inl ⟨rfl, rfl⟩⟩, ⟨rfl, .inl ⟨rfl, rfl⟩⟩, fun p q h => by cases h⟩ (Nat.le_refl _) 65536 4 4 65536 4 rfl rfl rfl (by omega) (by omega) (by omega)).mono ?_
  rintro e w1 ⟨a1, c1, rfl, ht1, hb1, hk1⟩
  have HT1 := Lib.hid ht1
  have HB1 := Lib.hid hb1
  have hz1 := hb1.size
  clear ht1 hb1 hk1
  go_wp2_with fail
  refine (putB HT1.out hz1 n 2 6 (n : Int) 2 rfl rfl rfl (by omega) (by omega) (by omega)).mono ?_
  rintro e w2 ⟨a2, c2, rfl, ht2, hb2, hk2⟩
  have HT2 := Lib.hid ht2
  have HB2 := Lib.hid (HB1.out.trans hb2)
  have hz2 : w.heap.size ≤ w2.heap.size := HB2.out.size
  clear ht2 hb2 hk2 HT1 HB1
  go_wp2_with (at_builtin; refine wpAppF rfl _ _ 32 rfl w.heap.size 5 (.int .u8 0) 1 1 Try.underlying32 u8_info rfl (by decide) a2 6 c2 _ rfl (owns_below HT2.out.o1 (balloc (brefl w2) _) (Nat.le_refl _)) ⟨w2.heap.size, 0, none⟩ 6 6 (by decide) (bytesV [0, 0, 0, 0, 0, 0]) rfl rfl (has_alloc _ _ _) (bytesV_one _) (by decide) (by decide) (by simp; omega) ?_; intro a3 c3 w3 hown3 k31 k32 k33 hb3 hg3 hf3; have HO3 := Lib.hid hown3; have HB3 := Lib.hid hb3; clear hown3 k31 k33 hb3 hg3 hf3; (try dsimp only [Act.put]); (try simp only [Nat.reduceAdd]); (try simp only [List.setIfInBounds_toArray, List.set_cons_succ, List.set_cons_zero]))
  have HBw := Lib.hid ((balloc HB2.out _).trans HB3.out)
  have HT3 := Lib.hid (show Two w.heap.size w3 a3 12 c3 (headF n) none 0 0 [] from ⟨by have := HO3.out; rw [← bytesV_append] at this; exact this, ⟨rfl, .inl ⟨rfl, rfl⟩⟩, fun p q _ h => by cases h⟩)
  clear HO3 HB3 HT2 HB2 hz1 hz2
  go_loopw [3, 4, 18] (WRelF w n ps) (fun _ _ i _ => n - (intOf i).toNat)
  case atStart => exact ⟨0, a3, c3, none, 0, Nat.zero_le _, rfl, rfl, rfl, by simpa [rowsW, setsF] using HT3.out, HBw.out⟩
  case round =>
    obtain ⟨k, aB, cB, aS, cS, hk, rfl, rfl, rfl, ht, hb⟩ := hrel
    have HT := Lib.hid ht
    have HB := Lib.hid hb
    have hzr := hb.size
    clear ht hb
    have hSL := setsF_le (ps.take k) (fun p hp => (HOK.out.each p (List.mem_of_mem_take hp)).2.2.1)
    have htk : (ps.take k).length ≤ k := by rw [List.length_take]; omega
    by_cases hlt : k < n
    · obtain ⟨p, hp⟩ : ∃ p, ps[k]? = some p := ⟨_, List.getElem?_eq_getElem (by rw [HL.out]; exact hlt)⟩
      obtain ⟨p1, p2, p3, p4, p5⟩ := HOK.out.each p (List.mem_of_getElem? hp)
      have hcell := HH.out.below HB.out
      obtain ⟨bE, oE, hbE, hblE, hcE⟩ := hcell.get (by
        rcases Nat.eq_zero_or_pos (plansF ps).length with g0 | g0
        · have := plansF_get ps k p hp 0 (by omega)
          rw [List.getElem?_eq_none (by omega)] at this
          simp [PlanF.enc] at this
        · exact g0)
      have e0 : wr.cell? ⟨bE, oE + k * 3, none⟩ = some (.int .u16 (p.ty : Nat)) := hcE (k * 3) _ (plansF_get ps k p hp 0 (by omega))
      have e1 : wr.cell? ⟨bE, oE + k * 3 + 1, none⟩ = some (.int .u16 (p.fl : Nat)) := by have := hcE (k * 3 + 1) _ (plansF_get ps k p hp 1 (by omega)); rwa [← Nat.add_assoc] at this
      have e2 : wr.cell? ⟨bE, oE + k * 3 + 2, none⟩ = some (.slice p.a p.ss.length p.c) := by have := hcE (k * 3 + 2) _ (plansF_get ps k p hp 2 (by omega)); rwa [← Nat.add_assoc] at this
      subst hbE
      have lE := cell_lt e0
      simp only at lE
      have HSN := Lib.hid (show ps.take (k + 1) = ps.take k ++ [p] from by rw [List.take_add_one, hp]; rfl)
      have HP5 := Lib.hid p5
      have HP4 := Lib.hid p4
      clear hcE hcell hp p5 p4
      obtain ⟨S, hS⟩ : ∃ S, S = (setsF (ps.take k)).length := ⟨_, rfl⟩
      rw [← hS] at HT hSL ⊢
      have HS := Lib.hid hS
      clear hS
      have HROW := Lib.hid (show headF n ++ rowsW n 0 (ps.take k) ++ beN 2 p.ty ++ beN 2 p.ss.length ++ beN 4 (12 + 12 * n + S) ++ beN 2 p.fl ++ beN 2 7 = headF n ++ rowsW n 0 (ps.take (k + 1)) from by
        rw [HSN.out, rowsW_snoc, rowBy, Nat.zero_add, ← HS.out]
        simp only [List.append_assoc])
      have HSS := Lib.hid (show setsF (ps.take k) ++ setBy p.ss = setsF (ps.take (k + 1)) from by rw [HSN.out, setsF_snoc])
      have HSL := Lib.hid (show (setsF (ps.take (k + 1))).length = S + 4 * p.ss.length from by rw [HSN.out, setsF_snoc, List.length_append, setBy_length, ← HS.out])
      have HMM := Lib.hid (show p.ss.length = p.ss.length from rfl)
      generalize p.ty = ty at *
      generalize p.fl = fl at *
      generalize p.a = pa at *
      generalize p.c = pc at *
      generalize p.ss = ss at *
      obtain ⟨m, hm⟩ : ∃ m, m = ss.length := ⟨_, rfl⟩
      rw [← hm] at e2 p3 HROW HSL
      have HM := Lib.hid hm
      clear hm HMM
      go_wp2_with fail
      obtain ⟨U, hU⟩ : ∃ U, U = wr.alloc (Obj.cells #[.int .u16 (ty : Nat), .int .u16 (fl : Nat), .slice pa m pc] 27) := ⟨_, rfl⟩
      have h6 : U.heap[wr.heap.size]? = some (.cells #[.int .u16 (ty : Nat), .int .u16 (fl : Nat), .slice pa m pc] 27 (0, 0)) := by rw [hU, heap_push, if_pos rfl]
      have HTU := Lib.hid (show Two w.heap.size U aB (12 + 12 * k) cB (headF n ++ rowsW n 0 (ps.take k)) aS S cS (setsF (ps.take k)) from by rw [hU]; exact HT.out.below (balloc (brefl _) _))
      have HBU := Lib.hid (show Below w.heap.size w U from by rw [hU]; exact balloc HB.out _)
      have hzU : w.heap.size ≤ U.heap.size := HBU.out.size
      rw [← hU]
      generalize wr.heap.size = g6 at *
      clear hU e0 e1 e2 lE HT HB hzr
      have l6 := (Array.getElem?_eq_some_iff.1 h6).1
      have HP1 := Lib.hid (fun W (hW : Below U.heap.size U W) => putB (HTU.out.below hW) (Nat.le_trans hzU hW.size) ty 2 (12 + 12 * k + 2) (ty : Int) 2 rfl rfl rfl (by omega) (by omega) (by omega))
      have H6 := Lib.hid h6
      refine wp_region_tree (.step 0 (.step 1 (.step 2 (.step 3 (.step 5 (.step 6 (.step 7 (.step 4 (.step 8 (.step 9 .nil)))))))))) (by kernel_rfl) (by kernel_rfl) (by kernel_rfl) (by kernel_rfl) (by intro _ _ d_ _ _ h_; cases d_ <;> first | exact h_ | (dsimp +zetaDelta only at h_ ⊢; exact h_)) (fun w' => ∃ p : KeptW U, w' = p.val) (kept_start _) ?_
      have hK0_ := fun (p : KeptW U) (o : Nat) => p.is.cell h6 (by decide) o
      (refine tree_quiet (by simp only [List.getElem?_toArray, List.getElem?_cons_succ, List.getElem?_cons_zero]; rfl) (by rfl) (by rfl) (fun K_ hK_ => ?_); go_big_quiet_op; refine hK_ _ ?_; clear hK_ K_)
      (refine tree_quiet (by simp only [List.getElem?_toArray, List.getElem?_cons_succ, List.getElem?_cons_zero]; rfl) (by rfl) (by rfl) (fun K_ hK_ => ?_); go_big_quiet_op; refine hK_ _ ?_; clear hK_ K_)
      (refine tree_quiet (by simp only [List.getElem?_toArray, List.getElem?_cons_succ, List.getElem?_cons_zero]; rfl) (by rfl) (by rfl) (fun K_ hK_ => ?_); go_big_quiet_op; refine hK_ _ ?_; clear hK_ K_)
      (refine tree_quiet (by simp only [List.getElem?_toArray, List.getElem?_cons_succ, List.getElem?_cons_zero]; rfl) (by rfl) (by rfl) (fun K_ hK_ => ?_); go_big_quiet_op; refine hK_ _ ?_; clear hK_ K_)
      (refine tree_quiet (by simp only [List.getElem?_toArray, List.getElem?_cons_succ, List.getElem?_cons_zero]; rfl) (by rfl) (by rfl) (fun K_ hK_ => ?_); go_big_quiet_op; refine hK_ _ ?_; clear hK_ K_)
      (refine tree_quiet (by simp only [List.getElem?_toArray, List.getElem?_cons_succ, List.getElem?_cons_zero]; rfl) (by rfl) (by rfl) (fun K_ hK_ => ?_); go_big_quiet_op; refine hK_ _ ?_; clear hK_ K_)
      (refine tree_quiet (by simp only [List.getElem?_toArray, List.getElem?_cons_succ, List.getElem?_cons_zero]; rfl) (by rfl) (by rfl) (fun K_ hK_ => ?_); go_big_quiet_op; refine hK_ _ ?_; clear hK_ K_)
      (refine tree_run (by simp only [List.getElem?_toArray, List.getElem?_cons_succ, List.getElem?_cons_zero]; rfl) (by rfl) (by rfl) (fun K_ hK_ => ?_); have HK_ := Lib.hid hK_; clear hK_; go_wp2_with (first | (go_at_call 31; (with_reducible refine (HP1.out _ (by exact blw)).mono ?_); rintro e x1 ⟨a4, c4, rfl, ht4, hb4, hk4⟩; have HT4 := Lib.hid ht4; have HB4 := Lib.hid hb4; have hz4 : w.heap.size ≤ x1.heap.size := Nat.le_trans hzU hb4.size; have HP2 := Lib.hid (fun W (hW : Below x1.heap.size x1 W) => putB (HT4.out.below hW) (Nat.le_trans hz4 hW.size) m 2 (12 + 12 * k + 4) (m : Int) 2 rfl rfl (by omega) (by omega) (by omega) (by omega)); clear ht4 hb4) | (go_at_call 31; (with_reducible refine (HP2.out _ (by exact blw)).mono ?_); rintro e x2 ⟨a5, c5, rfl, ht5, hb5, hk5⟩; have HT5 := Lib.hid ht5; have HB5 := Lib.hid hb5; clear ht5 hb5)); refine HK_.out _ _ (kept_ofA) ?_; clear HK_)
      (refine tree_run (by simp only [List.getElem?_toArray, List.getElem?_cons_succ, List.getElem?_cons_zero]; rfl) (by rfl) (by rfl) (fun K_ hK_ => ?_); have HK_ := Lib.hid hK_; clear hK_; go_wp2_with (first | (go_at_call 31; (with_reducible refine (HP1.out _ (by exact blw)).mono ?_); rintro e x1 ⟨a4, c4, rfl, ht4, hb4, hk4⟩; have HT4 := Lib.hid ht4; have HB4 := Lib.hid hb4; have hz4 : w.heap.size ≤ x1.heap.size := Nat.le_trans hzU hb4.size; have HP2 := Lib.hid (fun W (hW : Below x1.heap.size x1 W) => putB (HT4.out.below hW) (Nat.le_trans hz4 hW.size) m 2 (12 + 12 * k + 4) (m : Int) 2 rfl rfl (by omega) (by omega) (by omega) (by omega)); clear ht4 hb4) | (go_at_call 31; (with_reducible refine (HP2.out _ (by exact blw)).mono ?_); rintro e x2 ⟨a5, c5, rfl, ht5, hb5, hk5⟩; have HT5 := Lib.hid ht5; have HB5 := Lib.hid hb5; clear ht5 hb5)); refine HK_.out _ _ (kept_ofA) ?_; clear HK_)
      (refine tree_quiet (by simp only [List.getElem?_toArray, List.getElem?_cons_succ, List.getElem?_cons_zero]; rfl) (by rfl) (by rfl) (fun K_ hK_ => ?_); go_big_quiet_op; refine hK_ _ ?_; clear hK_ K_)
      refine tree_nil ?_
      clear hK0_
      have h62 := ((hk4.trans hk5).2 g6 _ _ _ (show U.drew.heap[g6]? = _ from H6.out) (by decide)).trans H6.out
      have HB2w := Lib.hid (HBU.out.drew.trans (HB4.out.trans HB5.out))
      have hz5 : w.heap.size ≤ x2.heap.size := HB2w.out.size
      clear hk4 hk5 HT4 HB4 HB5 HP1 HP2 h6 l6 HBU HTU hzU
      go_wp2_with fail
      refine (putB HT5.out hz5 (12 + 12 * n + S) 4 (12 + 12 * k + 8) _ 4 (by omega) rfl (by omega) (by omega) (by omega) (by omega)).mono ?_
      rintro e x3 ⟨a6, c6, rfl, ht6, hb6, hk6⟩
      have h63 := (hk6.2 g6 _ _ _ h62 (by decide)).trans h62
      have HT6 := Lib.hid ht6
      have HB6 := Lib.hid (HB2w.out.trans hb6)
      have hz6 : w.heap.size ≤ x3.heap.size := HB6.out.size
      have q63 := fun o => cell_of_heap h63 o
      have l63 := (Array.getElem?_eq_some_iff.1 h63).1
      clear ht6 hb6 hk6 HT5 HB2w h62 hz5
      go_wp2_with fail
      refine (putB HT6.out hz6 fl 2 (12 + 12 * k + 10) (fl : Int) 2 rfl rfl (by omega) (by omega) (by omega) (by omega)).mono ?_
      rintro e x4 ⟨a7, c7, rfl, ht7, hb7, hk7⟩
      have h64 := (hk7.2 g6 _ _ _ h63 (by decide)).trans h63
      have HT7 := Lib.hid ht7
      have HB7 := Lib.hid (HB6.out.trans hb7)
      have hz7 : w.heap.size ≤ x4.heap.size := HB7.out.size
      clear ht7 hb7 hk7 HT6 HB6 h63 hz6 q63 l63
      go_wp2_with fail
      refine (putB HT7.out hz7 7 2 (12 + 12 * (k + 1)) 7 2 rfl rfl (by omega) (by omega) (by omega) (by omega)).mono ?_
      rintro e x5 ⟨a8, c8, rfl, ht8, hb8, hk8⟩
      have h65 := (hk8.2 g6 _ _ _ h64 (by decide)).trans h64
      rw [HROW.out] at ht8
      have HT8 := Lib.hid ht8
      have HB8 := Lib.hid (HB7.out.trans hb8)
      have hz8 : w.heap.size ≤ x5.heap.size := HB8.out.size
      have q65 := fun o => cell_of_heap h65 o
      have l65 := (Array.getElem?_eq_some_iff.1 h65).1
      clear ht8 hb8 hk8 HT7 HB7 h64 hz7 h65
      go_wp2_with fail
      go_loopw [4, 49] (fun s i wv => ∃ (j : Nat) (aT : Option Addr) (cT : Nat), j ≤ m ∧ i = .int .i64 (j : Nat) ∧ s = .slice aT (S + 4 * j) cT ∧ Two w.heap.size wv a8 (12 + 12 * (k + 1)) c8 (headF n ++ rowsW n 0 (ps.take (k + 1))) aT (S + 4 * j) cT (setsF (ps.take k) ++ setBy (ss.take j)) ∧ Below w.heap.size w wv) (fun _ i _ => m - (intOf i).toNat)
      case atStart => exact ⟨0, aS, cS, Nat.zero_le _, rfl, rfl, by simpa [setBy] using HT8.out, HB8.out⟩
      case round =>
        rename World => wv
        obtain ⟨j, aT, cT, hj, rfl, rfl, htt, hbb⟩ := hrel
        have HTT := Lib.hid htt
        have HBB := Lib.hid hbb
        have hzv : w.heap.size ≤ wv.heap.size := hbb.size
        clear htt hbb
        by_cases hltj : j < m
        · obtain ⟨x, hx⟩ : ∃ x, ss[j]? = some x := ⟨_, List.getElem?_eq_getElem (by rw [← HM.out]; exact hltj)⟩
          have hxs := HP4.out x (List.mem_of_getElem? hx)
          obtain ⟨pp, hpp, hcc⟩ := (HP5.out.below HBB.out) j (.int .u16 (x : Nat)) (by simp [n16V, hx])
          have HJN := Lib.hid (show setsF (ps.take k) ++ setBy (ss.take j) ++ beN 2 x ++ beN 2 9 = setsF (ps.take k) ++ setBy (ss.take (j + 1)) from by
            rw [List.take_add_one, hx]
            show _ = _ ++ setBy (_ ++ [x])
            rw [setBy_snoc]
            simp only [List.append_assoc])
          subst hpp
          clear hx
          go_wp2_with fail
          refine (putS HTT.out hzv x 2 (S + 4 * j + 2) (x : Int) 2 rfl rfl rfl (by omega) (by omega) (by omega)).mono ?_
          rintro e y1 ⟨b1, d1, rfl, hu1, hv1, hw1⟩
          have HU1 := Lib.hid hu1
          have HV1 := Lib.hid (HBB.out.trans hv1)
          have hzy : w.heap.size ≤ y1.heap.size := HV1.out.size
          clear hu1 hv1 hw1
          go_wp2_with fail
          refine (putS HU1.out hzy 9 2 (S + 4 * (j + 1)) 9 2 rfl rfl (by omega) (by omega) (by omega) (by omega)).mono ?_
          rintro e y2 ⟨b2, d2, rfl, hu2, hv2, hw2⟩
          rw [HJN.out] at hu2
          have HU2 := Lib.hid hu2
          have HV2 := Lib.hid (HV1.out.trans hv2)
          clear hu2 hv2 hw2
          go_wp2_with fail
          go_roundw
          case rel => exact ⟨j + 1, b2, d2, hltj, by go_num, rfl, HU2.out, HV2.out⟩
          case measure => simp [intOf]; omega
        · obtain rfl : m = j := by omega
          have HT9 := Lib.hid (show Two w.heap.size wv a8 (12 + 12 * (k + 1)) c8 (headF n ++ rowsW n 0 (ps.take (k + 1))) aT (setsF (ps.take (k + 1))).length cT (setsF (ps.take (k + 1))) from by
            have := HTT.out
            rw [List.take_of_length_le (l := ss) (by rw [HM.out]; exact Nat.le_refl _), HSS.out, ← HSL.out] at this
            exact this)
          go_wp2_with fail
          go_roundw
          case rel => exact ⟨k + 1, a8, c8, aT, cT, hlt, by go_num, rfl, by rw [HSL.out], HT9.out, HBB.out⟩
          case measure => simp [intOf]; omega
    · obtain rfl : n = k := by omega
      have hall : ps.take n = ps := List.take_of_length_le (by rw [HL.out]; exact Nat.le_refl _)
      rw [hall] at HT hSL ⊢
      have HW := Lib.hid (show headF n ++ rowsW n 0 ps ++ setsF ps = writeF ps from by unfold writeF; rw [HL.out])
      have HWL := Lib.hid (show (writeF ps).length = 12 + 12 * n + (setsF ps).length from by rw [← HW.out, List.length_append, List.length_append, rowsW_length, HL.out]; rfl)
      obtain ⟨S, hS⟩ : ∃ S, S = (setsF ps).length := ⟨_, rfl⟩
      rw [← hS] at HT hSL HWL ⊢
      have HS := Lib.hid hS
      have HNA := Lib.hid (show aS = none → cS = 0 from (owns_slice HT.out.o2).elim fun _ h => h.elim fun _ h => by
        obtain ⟨e, _, _, h3⟩ := h
        cases e
        exact h3)
      clear hS
      have hS72 : S ≤ 7200 := by have := HL.out; omega
      clear hall hSL
      go_wp2_with (at_builtin; refine wpApp rfl _ _ 32 rfl w.heap.size 5 (.int .u8 0) 1 1 Try.underlying32 u8_info rfl (by decide) _ (12 + 12 * n) (bytesV (headF n ++ rowsW n 0 ps)) rfl HT.out.o1 aS S cS (bytesV (setsF ps)) rfl (by rw [bytesV_length, ← HS.out, Nat.mul_one]) (has_of_owns HT.out.o2) HNA.out (bytesV_one _) (by unfold maxLen; omega) (by omega) hzr ?_; intro a9 c9 w9 hown9 k91 k92 k93 hb9 hg9; rw [← bytesV_append, HW.out] at hown9; have HO9 := Lib.hid hown9; have HB9 := Lib.hid (HB.out.trans hb9); clear hown9 k93 hb9 hg9; (try dsimp only [Act.put]); (try simp only [List.setIfInBounds_toArray, List.set_cons_succ, List.set_cons_zero]))
      go_ret
      exact ⟨a9, c9, by rw [HWL.out]; rfl, by rw [HWL.out]; exact HO9.out, HB9.out⟩
end Go.Proofs.Ytfnghinefbmlmaa
