
/- Numbers of a plan's bytes; the walk of StateClosed. StateClosed returns true for every plan and every number of words, and changes nothing. No condition beside the row's own. -/
import Derived.Test.YthepejljgolcoaaStateOwn
namespace Go.Proofs.Ythepejljgolcoaa
open Go.RowKit Go.Lib

theorem numR (X Y : List UInt8) (m k s : Nat) (h : m = X.length + k) : num (X ++ Y) m s = num Y k s := by
  rw [h, ← num_dropS, List.drop_left]
theorem numL (X Y : List UInt8) (k s : Nat) (h : k + s ≤ X.length) : num (X ++ Y) k s = num X k s := by
  have := num_takeS (X ++ Y) X.length k s h
  rw [List.take_left] at this
  exact this.symm
theorem numB2 (z : Nat) (Z : List UInt8) (h : z ≤ 65535) : num (beN 2 z ++ Z) 0 2 = z := by
  rw [numL _ _ _ _ (by simp [beN_length])]
  simp [beN, num2, UInt8.toNat_ofNat']
  omega
theorem numB4 (z : Nat) (Z : List UInt8) (h : z ≤ 65535) : num (beN 4 z ++ Z) 0 4 = z := by
  rw [numL _ _ _ _ (by simp [beN_length])]
  simp [beN, num4, UInt8.toNat_ofNat']
  omega
theorem plan_cls (p : PlanL) (k room : Nat) : num (planB p k room) 0 4 = p.n := by
  simp only [planB, List.append_assoc]
  exact numB4 _ _ (by unfold PlanL.n; omega)
theorem plan_rows (p : PlanL) (k room : Nat) (h : 22 + room + 2 * p.cls.length ≤ 65535) : num (planB p k room) 8 4 = 22 + room + 2 * p.cls.length := by
  simp only [planB, List.append_assoc]
  rw [numR _ _ 8 4 4 (by rw [beN_length]), numR _ _ 4 0 4 (by rw [beN_length]), numB4 _ _ (by omega)]
  omega
theorem rowPB_num (r : List UInt8) : ∀ n c, c < n → num (rowPB r n) (2 * c) 2 = (r.getD c 0).toNat := by
  intro n
  induction n with
  | zero => intro c h; omega
  | succ n ih =>
    intro c h
    rw [rowPB_succ]
    by_cases hc : c < n
    · rw [numL _ _ _ _ (by rw [rowPB_length]; omega), ih c hc]
    · obtain rfl : c = n := by omega
      rw [numR _ _ _ 0 _ (by rw [rowPB_length]; omega)]
      have := numB2 (r.getD c 0).toNat [] (by have := byte_le (r.getD c 0); omega)
      rwa [List.append_nil] at this
theorem rowsPB_num (n : Nat) : ∀ (l : List (List UInt8)) (s c : Nat) (r : List UInt8), l[s]? = some r → c < n → num (rowsPB l n) (2 * (s * n + c)) 2 = (r.getD c 0).toNat := by
  intro l
  induction l with
  | nil => intro s c r h; simp at h
  | cons x l ih =>
    intro s c r h hc
    rw [show rowsPB (x :: l) n = rowPB x n ++ rowsPB l n from rfl]
    match s, h with
    | 0, h =>
      simp at h
      subst h
      rw [Nat.zero_mul, Nat.zero_add, numL _ _ _ _ (by rw [rowPB_length]; omega), rowPB_num x n c hc]
    | s + 1, h =>
      have e : (s + 1) * n = s * n + n := Nat.succ_mul s n
      rw [numR _ _ _ (2 * (s * n + c)) _ (by rw [rowPB_length]; omega)]
      exact ih s c r (by simpa using h) hc
theorem plan_ent (p : PlanL) (k room : Nat) (h : 22 + room + 2 * p.cls.length ≤ 65535) (s c : Nat) (r : List UInt8) (hr : p.rows[s]? = some r) (hc : c < p.n) : entN (planB p k room) (s * p.n + c) = (r.getD c 0).toNat := by
  unfold entN
  rw [plan_rows p k room h]
  have hs : s < p.rows.length := (List.getElem?_eq_some_iff.1 hr).1
  have hm : (s + 1) * p.n ≤ p.rows.length * p.n := Nat.mul_le_mul_right _ hs
  rw [Nat.succ_mul] at hm
  unfold planB
  rw [List.append_assoc, numR _ _ _ (2 * (s * p.n + c)) _ (by simp only [ofB, List.length_append, beN_length, List.length_replicate, clsB_length]; omega), numL _ _ _ _ (by rw [rowsPB_length]; omega)]
  exact rowsPB_num p.n p.rows s c r hr hc
/-- As few states as that takes. -/
theorem MLeast.is_max {bs : List UInt8} {k S : Nat} (h : MLeast bs k S) : S = max 2 (needS bs k (needE bs S)) := by
  have hc := h.closed
  unfold MClosed at hc
  have hle : max 2 (needS bs k (needE bs S)) ≤ S := by omega
  have := h.least (max 2 (needS bs k (needE bs S))) ⟨by omega, by
    have h1 := needS_mono bs k (needE_mono bs hle)
    omega⟩
  omega
def mostN (bs : List UInt8) (i : Nat) : Nat := needL (entN bs) i - 1
theorem mostN_succ (bs : List UInt8) (i : Nat) : mostN bs (i + 1) = max (mostN bs i) (entN bs i) := by
  unfold mostN
  rw [needL_succ]
  omega
theorem mostN_all (bs : List UInt8) (S : Nat) (h : 0 < S * num bs 0 4) : needE bs S = mostN bs (S * num bs 0 4) + 1 := by
  unfold mostN needE
  have := needL_lt (f := entN bs) (n := S * num bs 0 4) (i := 0) h
  omega

set_option maxRecDepth 100000 in
set_option maxHeartbeats 3200000 in
theorem stateClosed_walk (p : PlanL) (aC aR aE : Option Addr) (rv : List Value) (cC cR cE : Nat) (y : Int) (w : World) (h : PlanHas w p aC aR rv aE) (hwf : ∀ e ∈ p.ents, wfI e.1 ∧ wfI e.2.1 ∧ wfI e.2.2.1 ∧ wfI e.2.2.2) (hy : 0 ≤ y ∧ y ≤ 255) :
    Calls Try.prog 5 #[.agg #[.slice aC p.cls.length cC, .slice aR p.rows.length cR, .slice aE p.ents.length cE, .int .u8 (p.wide.toNat : Nat)], .int .u8 y] w fun e w' => e = .returned (.bool true) ∧ Below w.heap.size w w' := by
  have hAC := allocC
  have hAF := allocF
  have HSP := Lib.hid (fun W => speaks7_any W)
  obtain ⟨yn, rfl⟩ : ∃ yn : Nat, y = yn := ⟨y.toNat, by omega⟩
  obtain ⟨k, hk⟩ : ∃ k : Nat, k = yn % 3 := ⟨_, rfl⟩
  have hk2 : k ≤ 2 := by omega
  have hkz : (yn : Int) % 3 = (k : Int) := by omega
  clear hk
  have hlen := planB_length p k 0 hk2
  have hpn : 4 ≤ p.n ∧ p.n ≤ 11 := by unfold PlanL.n; omega
  have hcls := plan_cls p k 0
  have hent := plan_ent p k 0
  have HP := Lib.hid h
  obtain ⟨bs, hbs⟩ : ∃ bs, bs = planB p k 0 := ⟨_, rfl⟩
  obtain ⟨nB, hnB⟩ : ∃ nB, nB = bs.length := ⟨_, rfl⟩
  have hWRS : ∀ W, Below w.heap.size w W → p.cls.length ≤ 40 ∧ p.rows.length ≤ 20 ∧ p.ents.length ≤ 40 → Calls Try.prog 22 #[.agg #[.slice aC p.cls.length cC, .slice aR p.rows.length cR, .slice aE p.ents.length cE, .int .u8 (p.wide.toNat : Nat)], .int .i64 (k : Nat), .int .i64 0] W fun e w' => ∃ a' c', e = .returned (.slice a' nB c') ∧ w'.ownsRow W.heap.size 5 1 (.slice a' nB c') nB (bytesV bs) ∧ nB ≤ c' ∧ c' ≤ maxLen ∧ (a' = none → c' = 0) ∧ Below W.heap.size W w' := by
    intro W hW hs
    subst hnB hbs
    exact write_any p k 0 (k : Nat) 0 rfl rfl aC aR aE rv cC cR cE W (h.below hW) (by omega) (by omega) (by omega) (by omega) hk2 hwf
  rw [← hbs] at hcls hent
  rw [← hbs, ← hnB] at hlen
  have HL := Lib.hid hnB.symm
  clear hbs hnB h hwf
  have hmul : p.rows.length ≤ 20 → p.rows.length * p.n ≤ 20 * 11 := fun hr => Nat.mul_le_mul hr hpn.2
  generalize hRl : p.rows.length = nR at *
  have HNR := Lib.hid hRl
  clear hRl
  generalize p.cls.length = nC at *
  generalize p.ents.length = nE at *
  generalize p.wide.toNat = wy at *
  generalize p.n = C at *
  by_cases hs : nC ≤ 40 ∧ nR ≤ 20 ∧ nE ≤ 40
  case neg =>
    have HSM := Lib.hid (fun W => small_no aC aR aE nC nR nE cC cR cE (wy : Int) W hs)
    clear hWRS hlen hmul hs hent
    go_enter Try.func5, Try.ntmps5
    go_wp2_with (first | (go_at_call 15; (with_reducible refine (HSP.out _).mono ?_); rintro e w1 ⟨rfl, hb1⟩; have h1c := bc hb1; have h1f := bf hb1; have h1z := hb1.size; try simp only [World.size_alloc, World.size_drew] at h1z) | (go_at_call 21; (with_reducible refine (HSM.out _).mono ?_); rintro e w2 ⟨rfl, hb2⟩; have h2c := bc hb2; have h2f := bf hb2; have h2z := hb2.size; try simp only [World.size_alloc, World.size_drew] at h2z))
    go_ret
    exact ⟨rfl, blw⟩
  have hn2 : nB ≤ 2000 := by
    have := hmul hs.2.1
    have : nE * (4 + 2 * k) ≤ 40 * 8 := Nat.mul_le_mul hs.2.2 (by omega)
    omega
  have HENT := Lib.hid (fun s c r hr hc => hent (by omega) s c r hr hc)
  have HSM := Lib.hid (fun W => small_yes aC aR aE nC nR nE cC cR cE (wy : Int) W hs)
  have HWR := Lib.hid (fun W hW => hWRS W hW hs)
  have hnR := hs.2.1
  clear hWRS hlen hmul hs hent
  by_cases hok : ∃ rs S, MOk bs 30 k rs S
  case neg =>
    have HRD := Lib.hid (fun a c W (hW : Has W a (bytesV bs)) (h1 : nB ≤ c) (h2 : c ≤ maxLen) => mread_none a nB c bs 30 k 30 (k : Int) rfl rfl W hW HL.out h1 h2 (by decide) (by decide) hk2 (fun rs S hr => hok ⟨rs, S, hr⟩))
    clear hok
    go_enter Try.func5, Try.ntmps5
    go_wp2_with (first
      | (go_at_call 15; (with_reducible refine (HSP.out _).mono ?_); rintro e w1 ⟨rfl, hb1⟩; have h1c := bc hb1; have h1f := bf hb1; have h1z := hb1.size; try simp only [World.size_alloc, World.size_drew] at h1z)
      | (go_at_call 21; (with_reducible refine (HSM.out _).mono ?_); rintro e w2 ⟨rfl, hb2⟩; have h2c := bc hb2; have h2f := bf hb2; have h2z := hb2.size; try simp only [World.size_alloc, World.size_drew] at h2z)
      | (go_at_call 22; (with_reducible refine (HWR.out _ (by exact blw)).mono ?_); rintro e w3 ⟨a1, c1, rfl, hown, k11, k12, k13, hb3⟩; have HHb := Lib.hid (has_of_owns hown); have h3z := hb3.size; clear hown)
      | (go_at_call 16; (with_reducible refine (HRD.out _ _ _ HHb.out k11 k12).mono ?_); rintro e w4 ⟨rfl, hb4⟩; have h4c := bc hb4; have h4f := bf hb4; have h4z := hb4.size; try simp only [World.size_alloc, World.size_drew] at h4z))
    go_ret
    exact ⟨rfl, blw⟩
  obtain ⟨rs, S, hok⟩ := hok
  have HRD := Lib.hid (fun a c W (hW : Has W a (bytesV bs)) (h1 : nB ≤ c) (h2 : c ≤ maxLen) => mread_some a nB c bs 30 k 30 (k : Int) rfl rfl rs S W hW HL.out h1 h2 (by decide) (by decide) hk2 hok)
  have hS6 := hok.s6 (by rw [HL.out]; exact hn2)
  have hSm := hok.least.is_max
  have hScl := hok.least.closed
  have hE6 := needE_le bs S
  have hmost := mostN_all bs S
  go_enter Try.func5, Try.ntmps5
  go_wp2_with (first
    | (go_at_call 15; (with_reducible refine (HSP.out _).mono ?_); rintro e w1 ⟨rfl, hb1⟩; have h1c := bc hb1; have h1f := bf hb1; have h1z := hb1.size; try simp only [World.size_alloc, World.size_drew] at h1z)
    | (go_at_call 21; (with_reducible refine (HSM.out _).mono ?_); rintro e w2 ⟨rfl, hb2⟩; have h2c := bc hb2; have h2f := bf hb2; have h2z := hb2.size; try simp only [World.size_alloc, World.size_drew] at h2z)
    | (go_at_call 22; (with_reducible refine (HWR.out _ (by exact blw)).mono ?_); rintro e w3 ⟨a1, c1, rfl, hown, k11, k12, k13, hb3⟩; have HHb := Lib.hid (has_of_owns hown); have h3z := hb3.size; clear hown)
    | (go_at_call 16; (with_reducible refine (HRD.out _ _ _ HHb.out k11 k12).mono ?_); rintro e w4 ⟨g, rfl, hM, hb4⟩; have HM := Lib.hid hM; have HBW := Lib.hid (show Below w.heap.size w w4 from by exact blw); have h4z := hb4.size; have Z2 := Lib.hid ((hb4.block w.heap.size (by omega)).trans ((hb3.block w.heap.size (by omega)).trans ((hb2.block w.heap.size (by omega)).trans ((hb1.block w.heap.size (by simp)).trans (by rw [heap_push, if_pos rfl]))))); clear hM))
  have HP4 := Lib.hid (HP.out.below HBW.out)
  have HY := Lib.hid (fun (s c : Nat) (hs : s < S) (hc : c < C) => show ∃ x0 x2 x4 x6 : Nat, x0 < S ∧ ∀ W, Below w4.heap.size w4 W → Calls Try.prog 25 #[.pointer (some ⟨g, 0, none⟩), .int .i64 (s : Nat), .int .i64 (c : Nat)] W fun e w' => e = .returned (.tuple #[.agg #[.int .i64 (x0 : Nat), .int .i64 (x2 : Nat), .int .i64 (x4 : Nat), .int .i64 (x6 : Nat)], .bool true]) ∧ Below W.heap.size W w' from by
    have hin : entN bs (s * num bs 0 4 + c) < needE bs S := ent_in hs (by rw [hcls]; exact hc)
    refine ⟨_, _, _, _, ?_, fun W hW => step_yes w3.heap.size g bs k rs S s c W (HM.out.below hW) (by omega) hs (by rw [hcls]; exact hc)⟩
    rw [num_drop]
    exact Nat.lt_of_lt_of_le (needL_lt (f := nextN bs k) hin) hScl.2)
  have hst := Lib.hid (fun W (hW : Below w4.heap.size w4 W) => states_any w3.heap.size g bs k rs S W (HM.out.below hW))
  have hcl := Lib.hid (fun W (hW : Below w4.heap.size w4 W) => classes_any w3.heap.size g bs k rs S W (HM.out.below hW))
  have hen := Lib.hid (fun W (hW : Below w4.heap.size w4 W) => entries_any w3.heap.size g bs k rs S W (HM.out.below hW))
  have hNN : max 2 (needL (nextN bs k) (needE bs S)) = S := hSm.symm
  have HNN := Lib.hid hNN
  have hS2 : 2 ≤ S := hScl.1
  rw [hcls] at hcl
  rw [hcls] at hmost
  have hpos : 0 < S * C := Nat.mul_pos (by omega) (by omega)
  have HMOST := Lib.hid (hmost hpos)
  obtain ⟨N, hN⟩ : ∃ N, N = needE bs S := ⟨_, rfl⟩
  rw [← hN] at hen HNN HMOST hE6
  have hl2 := (Array.getElem?_eq_some_iff.1 Z2.out).1
  clear hNN hSm hScl hmost hpos hN hb1 hb2 hb3 hb4 h1c h1f h1z h2c h2f h2z h3z h4z k11 k12 k13 HHb HRD HWR HSM HSP hok HP
  go_wp2_with (first | (go_at_call 23; (with_reducible refine (hst.out _ (brefl _)).mono ?_); rintro e wa ⟨rfl, hba⟩; have hac := bc hba; have haf := bf hba; have haz := hba.size; try simp only [World.size_alloc, World.size_drew] at haz))
  have hba' := hba
  have HBA := Lib.hid hba'
  clear hba hba' hac haf haz
  go_loopw [44] (fun i wr => ∃ s : Nat, s ≤ S ∧ i = .int .i64 (s : Nat) ∧ Below w4.heap.size w4 wr) (fun i _ => S - (intOf i).toNat)
  case atStart => exact ⟨0, Nat.zero_le _, rfl, HBA.out⟩
  case round =>
    obtain ⟨s, hs, rfl, hbr⟩ := hrel
    have HBR := Lib.hid hbr
    have hwr := hbr.size
    clear hbr
    by_cases hlt : s < S
    · go_wp2_with (first | (go_at_call 24; (with_reducible refine (hcl.out _ HBR.out).mono ?_); rintro e wb ⟨rfl, hbb⟩; have hbc := bc hbb; have hbf := bf hbb; have hbz := hbb.size; try simp only [World.size_alloc, World.size_drew] at hbz))
      have HBB := Lib.hid hbb
      clear hbb hbc hbf hbz
      go_loopw [49] (fun i wu => ∃ c : Nat, c ≤ C ∧ i = .int .i64 (c : Nat) ∧ Below wr.heap.size wr wu) (fun i _ => C - (intOf i).toNat)
      case atStart => exact ⟨0, Nat.zero_le _, rfl, HBB.out⟩
      case round =>
        obtain ⟨c, hc, rfl, hbu⟩ := hrel
        rename World => wu
        have HBU := Lib.hid hbu
        have HBU4 := Lib.hid (HBR.out.trans (hbu.mono hwr))
        clear hbu
        by_cases hltc : c < C
        · obtain ⟨x0, x2, x4, x6, hx0, hyc⟩ := HY.out s c hlt hltc
          have HYC := Lib.hid hyc
          clear hyc
          have d1 : decide ((x0 : Int) < 0) = false := by simp
          have d2 : decide ((S : Int) ≤ (x0 : Int)) = false := by simp; omega
          go_wp2_with (first | (go_at_call 25; (with_reducible refine (HYC.out _ HBU4.out).mono ?_); rintro e wc ⟨rfl, hbc⟩; have hcc := bc hbc; have hcf := bf hbc; have hcz := hbc.size; try simp only [World.size_alloc, World.size_drew] at hcz))
          obtain ⟨X, hX⟩ : ∃ X, X = wc.alloc (Obj.cells #[.int .i64 (x0 : Nat), .int .i64 (x2 : Nat), .int .i64 (x4 : Nat), .int .i64 (x6 : Nat)] 63) := ⟨_, rfl⟩
          have hbX : Below wu.heap.size wu X := by rw [hX]; exact blw
          have x12 : X.heap[wc.heap.size]? = some (.cells #[.int .i64 (x0 : Nat), .int .i64 (x2 : Nat), .int .i64 (x4 : Nat), .int .i64 (x6 : Nat)] 63 (0, 0)) := by rw [hX, heap_push, if_pos rfl]
          rw [← hX]
          have X12 := Lib.hid x12
          have q12 := cell_of_heap x12 0
          have l12 := (Array.getElem?_eq_some_iff.1 x12).1
          simp only [List.getElem?_toArray, List.getElem?_cons_zero] at q12
          have HBX := Lib.hid (HBU.out.trans (hbX.mono HBU.out.size))
          have HBX4 := Lib.hid (HBU4.out.trans (hbX.mono HBU4.out.size))
          clear hX hbX x12 hbc hcc hcf hcz
          generalize wc.heap.size = g12 at *
          refine wp_region_tree (.step 0 (.step 1 (.step 2 (.step 3 (.step 4 (.step 5 (.step 6 (.step 7 (.step 8 (.step 9 (.step 10 (.step 11 (.step 12 (.step 13 .nil)))))))))))))) (by kernel_rfl) (by kernel_rfl) (by kernel_rfl) (by kernel_rfl) (by intro _ _ d_ _ _ h_; cases d_ <;> first | exact h_ | (dsimp +zetaDelta only at h_ ⊢; exact h_)) (fun w' => ∃ p : Wld X [], w' = p.val) (wld_start _ _) ?_
          have hG_ := @wldC X
          (refine tree_quiet (by simp only [List.getElem?_toArray, List.getElem?_cons_succ, List.getElem?_cons_zero]; rfl) (by rfl) (by rfl) (fun K_ hK_ => ?_); go_big_quiet_op; refine hK_ _ ?_; clear hK_ K_)
          (refine tree_quiet (by simp only [List.getElem?_toArray, List.getElem?_cons_succ, List.getElem?_cons_zero]; rfl) (by rfl) (by rfl) (fun K_ hK_ => ?_); go_big_quiet_op; refine hK_ _ ?_; clear hK_ K_)
          (refine tree_quiet (by simp only [List.getElem?_toArray, List.getElem?_cons_succ, List.getElem?_cons_zero]; rfl) (by rfl) (by rfl) (fun K_ hK_ => ?_); go_big_quiet_op; refine hK_ _ ?_; clear hK_ K_)
          (refine tree_quiet (by simp only [List.getElem?_toArray, List.getElem?_cons_succ, List.getElem?_cons_zero]; rfl) (by rfl) (by rfl) (fun K_ hK_ => ?_); go_big_quiet_op; refine hK_ _ ?_; clear hK_ K_)
          (refine tree_quiet (by simp only [List.getElem?_toArray, List.getElem?_cons_succ, List.getElem?_cons_zero]; rfl) (by rfl) (by rfl) (fun K_ hK_ => ?_); go_big_quiet_op; refine hK_ _ ?_; clear hK_ K_)
          (refine tree_quiet (by simp only [List.getElem?_toArray, List.getElem?_cons_succ, List.getElem?_cons_zero]; rfl) (by rfl) (by rfl) (fun K_ hK_ => ?_); go_big_quiet_op; refine hK_ _ ?_; clear hK_ K_)
          (refine tree_quiet (by simp only [List.getElem?_toArray, List.getElem?_cons_succ, List.getElem?_cons_zero]; rfl) (by rfl) (by rfl) (fun K_ hK_ => ?_); go_big_quiet_op; refine hK_ _ ?_; clear hK_ K_)
          (refine tree_quiet (by simp only [List.getElem?_toArray, List.getElem?_cons_succ, List.getElem?_cons_zero]; rfl) (by rfl) (by rfl) (fun K_ hK_ => ?_); go_big_quiet_op; refine hK_ _ ?_; clear hK_ K_)
          (refine tree_quiet (by simp only [List.getElem?_toArray, List.getElem?_cons_succ, List.getElem?_cons_zero]; rfl) (by rfl) (by rfl) (fun K_ hK_ => ?_); go_big_quiet_op; refine hK_ _ ?_; clear hK_ K_)
          (refine tree_quiet (by simp only [List.getElem?_toArray, List.getElem?_cons_succ, List.getElem?_cons_zero]; rfl) (by rfl) (by rfl) (fun K_ hK_ => ?_); go_big_quiet_op; refine hK_ _ ?_; clear hK_ K_)
          (refine tree_quiet (by simp only [List.getElem?_toArray, List.getElem?_cons_succ, List.getElem?_cons_zero]; rfl) (by rfl) (by rfl) (fun K_ hK_ => ?_); go_big_quiet_op; refine hK_ _ ?_; clear hK_ K_)
          (refine tree_run (by simp only [List.getElem?_toArray, List.getElem?_cons_succ, List.getElem?_cons_zero]; rfl) (by rfl) (by rfl) (fun K_ hK_ => ?_); have HK_ := Lib.hid hK_; clear hK_; go_wp2_with ((go_at_call 23; (with_reducible refine (hst.out _ (HBX4.out.trans (Below.mono (w := X) (by exact blw) HBX4.out.size))).mono ?_); rintro e wd ⟨rfl, hbd⟩; have zd := (Below.block (show Below X.heap.size X wd from by exact blw) _ l12).trans X12.out; have qd := cell_of_heap zd 0; simp only [List.getElem?_toArray, List.getElem?_cons_zero] at qd; have ld := (Array.getElem?_eq_some_iff.1 zd).1; clear zd)); refine HK_.out _ _ (wld_ofA) ?_; clear HK_)
          (refine tree_quiet (by simp only [List.getElem?_toArray, List.getElem?_cons_succ, List.getElem?_cons_zero]; rfl) (by rfl) (by rfl) (fun K_ hK_ => ?_); go_big_quiet_op; refine hK_ _ ?_; clear hK_ K_)
          (refine tree_quiet (by simp only [List.getElem?_toArray, List.getElem?_cons_succ, List.getElem?_cons_zero]; rfl) (by rfl) (by rfl) (fun K_ hK_ => ?_); go_big_quiet_op; refine hK_ _ ?_; clear hK_ K_)
          refine tree_nil ?_
          clear hG_
          have HBD := Lib.hid (HBX.out.trans (Below.mono (show Below X.heap.size X wd from by exact blw) HBX.out.size))
          go_wp2_with fail
          go_roundw
          case rel => exact ⟨c + 1, hltc, by go_num, HBD.out⟩
          case measure => simp [intOf]; omega
        · obtain rfl : C = c := by omega
          go_wp2_with fail
          go_roundw
          case rel => exact ⟨s + 1, hlt, by go_num, HBU4.out⟩
          case measure => simp [intOf]; omega
    · obtain rfl : S = s := by omega
      go_wp2_with (first | (go_at_call 26; (with_reducible refine (hen.out _ HBR.out).mono ?_); rintro e w5 ⟨ae, ce, rfl, hoe, hce1, hce2, _, hb5⟩; have HOE := Lib.hid hoe; have HB5 := Lib.hid (HBR.out.trans (hb5.mono hwr)); clear hoe hb5))
      have hw5 : w4.heap.size ≤ w5.heap.size := HB5.out.size
      go_loopw [9, 78] (fun st i wq => ∃ j : Nat, j ≤ N ∧ i = .int .i64 (j : Nat) ∧ st = .int .i64 (max 2 (needL (nextN bs k) j) : Nat) ∧ Below w5.heap.size w5 wq) (fun _ i _ => N - (intOf i).toNat)
      case atStart => exact ⟨0, Nat.zero_le _, rfl, rfl, brefl _⟩
      case round =>
        obtain ⟨j, hj, rfl, rfl, hbq⟩ := hrel
        rename World => wq
        have HBQ := Lib.hid hbq
        have HOR := Lib.hid (owns_below HOE.out hbq (Nat.le_refl _))
        clear hbq
        by_cases hltj : j < N
        · obtain ⟨gE, hgE⟩ : ∃ gE, ae = some ⟨gE, 0, none⟩ := by
            rcases HOR.out.2 with ⟨_, h0⟩ | ⟨g', cap, cur, hv', _⟩
            · omega
            · injection hv' with e1 _ _
              exact ⟨g', e1⟩
          subst hgE
          have HE := Lib.hid (fun i (hi : i < 4) => (HOR.out.cellAt (j * 4 + i) (by omega)).trans (entsV_get (bs.drop (num bs 12 4)) k N _ i hltj hi))
          have e0 := HE.out 0 (by omega)
          have e1 := HE.out 1 (by omega)
          have e2 := HE.out 2 (by omega)
          have e3 := HE.out 3 (by omega)
          rw [Nat.add_zero] at e0
          unfold entV at e0 e1 e2 e3
          simp only [List.getElem?_cons_succ, List.getElem?_cons_zero] at e0 e1 e2 e3
          have hlE := cell_lt e0
          simp only at hlE
          have hnx : num (bs.drop (num bs 12 4)) (j * (4 + 2 * k)) 2 = nextN bs k j := num_drop _ _ _
          have hle : nextN bs k j ≤ 65535 := num2_lt bs _
          have hll : needL (nextN bs k) j ≤ 65536 := needS_le bs k j
          have hsu : max 2 (needL (nextN bs k) (j + 1)) = max (max 2 (needL (nextN bs k) j)) (nextN bs k j + 1) := by rw [needL_succ]; omega
          rw [hnx] at e0
          have HSU := Lib.hid hsu
          have hmx : max 2 (needL (nextN bs k) j) ≤ 65536 := by omega
          clear hsu hnx hll
          generalize nextN bs k j = x0 at *
          generalize max 2 (needL (nextN bs k) j) = M0 at *
          generalize num (bs.drop (num bs 12 4)) (j * (4 + 2 * k) + 2) 2 = x2 at *
          generalize (if 0 < k then num (bs.drop (num bs 12 4)) (j * (4 + 2 * k) + 4) 2 else 0) = x4 at *
          generalize (if 1 < k then num (bs.drop (num bs 12 4)) (j * (4 + 2 * k) + 6) 2 else 0) = x6 at *
          clear HE
          go_wp2_with fail
          go_roundw
          case rel =>
            refine ⟨j + 1, hltj, by go_num, ?_, HBQ.out.trans (Below.mono (show Below wq.heap.size wq _ from by exact blw) HBQ.out.size)⟩
            rw [HSU.out]
            congr 1
            split <;> omega
          case measure => simp [intOf]; omega
        · have hjN : j = N := by omega
          rw [hjN] at *
          rw [HNN.out]
          have HBQ4 := Lib.hid (HB5.out.trans (HBQ.out.mono hw5))
          clear HOR HOE
          have hmu : mostN bs 0 = 0 := rfl
          go_wp2_with (first | (go_at_call 23; (with_reducible refine (hst.out _ HBQ4.out).mono ?_); rintro e wa ⟨rfl, hba⟩; have HBA2 := Lib.hid (HBQ4.out.trans (hba.mono HBQ4.out.size)); clear hba))
          go_loopw [8, 90] (fun mo i wb => ∃ s m : Nat, s ≤ S ∧ i = .int .i64 (s : Nat) ∧ mo = .int .i64 (m : Nat) ∧ m ≤ 255 ∧ (S ≤ nR → m = mostN bs (s * C)) ∧ Below w4.heap.size w4 wb) (fun _ i _ => S - (intOf i).toNat)
          case atStart => exact ⟨0, 0, Nat.zero_le _, rfl, rfl, by omega, fun _ => by rw [Nat.zero_mul, hmu], HBA2.out⟩
          case round =>
            obtain ⟨s, m, hs, rfl, rfl, hm, hmo, hbv⟩ := hrel
            rename World => wb
            have HBV := Lib.hid hbv
            have hwb := hbv.size
            have HMO := Lib.hid hmo
            clear hbv hmo
            by_cases hlt2 : s < S
            · go_wp2_with (first | (go_at_call 24; (with_reducible refine (hcl.out _ HBV.out).mono ?_); rintro e wc ⟨rfl, hbc⟩; have HBC := Lib.hid (HBV.out.trans (hbc.mono hwb)); clear hbc))
              go_loopw [8, 95] (fun mo i wv => ∃ c m : Nat, c ≤ C ∧ i = .int .i64 (c : Nat) ∧ mo = .int .i64 (m : Nat) ∧ m ≤ 255 ∧ (S ≤ nR → m = mostN bs (s * C + c)) ∧ Below w4.heap.size w4 wv) (fun _ i _ => C - (intOf i).toNat)
              case atStart => exact ⟨0, m, Nat.zero_le _, rfl, rfl, hm, HMO.out, HBC.out⟩
              case round =>
                clear HMO hm
                obtain ⟨c, m, hc, rfl, rfl, hm, hmo, hbx⟩ := hrel
                rename World => wv
                have HBX := Lib.hid hbx
                have HMO := Lib.hid hmo
                have z2 := (hbx.block _ hl2).trans Z2.out
                have q2 := fun o => cell_of_heap z2 o
                have l2 := (Array.getElem?_eq_some_iff.1 z2).1
                clear hbx hmo z2
                by_cases hltc : c < C
                · have HSU := Lib.hid (mostN_succ bs (s * C + c))
                  by_cases hsr : s < nR
                  case neg =>
                    have d1 : decide ((s : Int) < (nR : Int)) = false := by simp; omega
                    go_wp2_with fail
                    go_roundw
                    case rel => exact ⟨c + 1, m, hltc, by go_num, rfl, hm, fun hh => by omega, HBX.out⟩
                    case measure => simp [intOf]; omega
                  have d1 : decide ((s : Int) < (nR : Int)) = true := by simp; omega
                  obtain ⟨r, hr⟩ : ∃ r, p.rows[s]? = some r := ⟨_, List.getElem?_eq_getElem (by rw [HNR.out]; exact hsr)⟩
                  have HEN := Lib.hid (HENT.out s c r hr hltc)
                  have HPV := Lib.hid (HP4.out.below HBX.out)
                  obtain ⟨ai, ci, hv, hrb⟩ := HP4.out.row s r hr
                  obtain ⟨bR, oR, hbR, hblR, hcell⟩ := HPV.out.rows.get (by rw [HPV.out.rlen, HNR.out]; omega)
                  have f0 := hcell s _ hv
                  have HRB := Lib.hid (hrb.below HBX.out)
                  subst hbR
                  clear hcell hv hrb hr
                  have hby := byte_le (r.getD c 0)
                  generalize hrl : r.length = rl at *
                  have HRL := Lib.hid hrl
                  clear hrl
                  by_cases hcr : c < rl
                  · have d2 : decide ((c : Int) < (rl : Int)) = true := by simp; omega
                    obtain ⟨bI, oI, hbI, hblI, hcI⟩ := HRB.out.get (by rw [bytesV_length, HRL.out]; omega)
                    have f1 := hcI c _ (bytesV_get r c (by rw [HRL.out]; exact hcr))
                    subst hbI
                    clear hcI
                    generalize (r.getD c 0).toNat = bt at *
                    go_wp2_with fail
                    go_roundw
                    case rel =>
                      refine ⟨c + 1, max m bt, hltc, by go_num, ?_, by omega, fun hh => ?_, HBX.out⟩
                      · congr 1
                        split <;> omega
                      · rw [← Nat.add_assoc, HSU.out, HEN.out, ← HMO.out hh]
                    case measure => simp [intOf]; omega
                  · have d2 : decide ((c : Int) < (rl : Int)) = false := by simp; omega
                    have h0 : (r.getD c 0).toNat = 0 := by
                      rw [List.getD_eq_getElem?_getD, List.getElem?_eq_none (by rw [HRL.out]; omega)]; rfl
                    rw [h0] at HEN
                    clear h0 hby
                    go_wp2_with fail
                    go_roundw
                    case rel =>
                      refine ⟨c + 1, m, hltc, by go_num, rfl, hm, fun hh => ?_, HBX.out⟩
                      rw [← Nat.add_assoc, HSU.out, HEN.out, ← HMO.out hh]
                      omega
                    case measure => simp [intOf]; omega
                · obtain rfl : C = c := by omega
                  have e : (s + 1) * C = s * C + C := Nat.succ_mul s C
                  go_wp2_with fail
                  go_roundw
                  case rel => exact ⟨s + 1, m, hlt2, by go_num, rfl, hm, fun hh => by rw [e]; exact HMO.out hh, HBX.out⟩
                  case measure => simp [intOf]; omega
            · obtain rfl : s = S := by omega
              have z2 := (HBV.out.block _ hl2).trans Z2.out
              have ZV := Lib.hid z2
              have q2 := fun o => cell_of_heap z2 o
              have l2 := (Array.getElem?_eq_some_iff.1 z2).1
              clear z2
              by_cases hSR : s ≤ nR
              · have hNm : N = m + 1 := by rw [HMO.out hSR]; exact HMOST.out
                have d1 : decide ((nR : Int) < (s : Int)) = false := by simp; omega
                have d3 : decide ((N : Int) = (m : Int) + 1) = true := by simp; omega
                have d4 : ((N : Int) == (m : Int) + 1) = true := by simp; omega
                clear HNN HMOST
                go_wp2_with (first
                  | (go_at_call 23; (with_reducible refine (hst.out _ HBV.out).mono ?_); rintro e wd ⟨rfl, hbd⟩; have HBD := Lib.hid (HBV.out.trans (hbd.mono hwb)); have zd := (hbd.block _ l2).trans ZV.out; have qd := fun o => cell_of_heap zd o; have ld := (Array.getElem?_eq_some_iff.1 zd).1; clear hbd zd)
                  | (go_at_call 26; (with_reducible refine (hen.out _ HBD.out).mono ?_); rintro e we ⟨ae2, ce2, rfl, _, _, _, _, hbe⟩; have HBE := Lib.hid (HBD.out.trans (hbe.mono HBD.out.size)); clear hbe))
                go_ret
                exact ⟨rfl, HBW.out.trans (HBE.out.mono HBW.out.size)⟩
              · have d1 : decide ((nR : Int) < (s : Int)) = true := by simp; omega
                go_wp2_with (first
                  | (go_at_call 23; (with_reducible refine (hst.out _ HBV.out).mono ?_); rintro e wd ⟨rfl, hbd⟩; have HBD := Lib.hid (HBV.out.trans (hbd.mono hwb)); have zd := (hbd.block _ l2).trans ZV.out; have qd := fun o => cell_of_heap zd o; have ld := (Array.getElem?_eq_some_iff.1 zd).1; clear hbd zd))
                go_ret
                exact ⟨rfl, HBW.out.trans (HBD.out.mono HBW.out.size)⟩

open Go.ChangeShapes Go.WideShapes Go.ChangeAt Go.RowKit
open Go.ChangeMaps (open_string shut_string)

set_option maxRecDepth 100000 in
theorem stateClosed_walks (H : Type) (enc : TypeId × Value → H) : Walks H enc 5 [59, 5] := by
  intro W base args ds p hval hA _
  obtain ⟨v0, vs0, d0, ds0, p0, q0, hargs, rfl, rfl, h0, r0⟩ := trodAll_cons hA
  obtain ⟨v1, vs1, d1, ds1, p1, q1, rfl, rfl, rfl, h1, r1⟩ := trodAll_cons r0
  obtain ⟨rfl, rfl, rfl⟩ := trodAll_nil r1
  obtain rfl : args = #[v0, v1] := by cases args; simp_all
  obtain ⟨p, aC, aR, aE, rv, cC, cR, cE, rfl, hP, hw⟩ := open_plan (hval 0 59 v0 rfl rfl) h0
  obtain ⟨z1, rfl, t1⟩ := open_int Try.underlying5 (hval 1 5 v1 rfl rfl) h1
  obtain ⟨x1, rfl, o1⟩ := wf_u8 t1
  exact stateClosed_walk p aC aR aE rv cC cR cE (x1 : Int) W hP hw ⟨by omega, by omega⟩

set_option maxRecDepth 100000 in
theorem stateClosed_lifted (os : Os) (started : os.Started) (H : Type) (enc : TypeId × Value → H) :
    ReturnsInHanded {} Try.checked os 5 .any (Rows.stateClosedSpec.pre6 enc Try.prog Try.f5 Rows.stateClosedRow.domain false) (Rows.stateClosedSpec.post enc Try.prog Try.f5 false true false false) :=
  lift_law (s := Rows.stateClosedSpec) (fn := Try.f5) started (by kernel_rfl) Try.func5
    (ChangeSpec.witness6 (enc := enc) (C := Try.checked) false ⟨#[], #[.agg #[.slice none 0 0, .slice none 0 0, .slice none 0 0, .int .u8 0], .int .u8 0], []⟩ 8 (by kernel_rfl) (by kernel_rfl) (by kernel_rfl) (by kernel_rfl))
    rfl rfl (fun ds h => by match ds, h with | [d0, d1], _ => rfl) (by intro t ht; simp [Try.params5] at ht; first | (subst ht; exact ⟨by kernel_rfl, of_decide_eq_true (by kernel_rfl)⟩) | (obtain rfl | rfl := ht <;> exact ⟨by kernel_rfl, of_decide_eq_true (by kernel_rfl)⟩) | (obtain rfl | rfl | rfl := ht <;> exact ⟨by kernel_rfl, of_decide_eq_true (by kernel_rfl)⟩) | (obtain rfl | rfl | rfl | rfl := ht <;> exact ⟨by kernel_rfl, of_decide_eq_true (by kernel_rfl)⟩))
    (by rw [Try.params5]; exact stateClosed_walks H enc)
theorem stateClosed_over : Rows.stateClosedRow.holds Try.pinned (OpenSpec.ofChange Rows.stateClosedSpec) :=
  OpenClaim.holds_of_wide 5 Try.f5 rfl rfl rfl rfl rfl rfl rfl ⟨rfl, rfl, rfl, rfl, rfl⟩ rfl rfl rfl rfl rfl (by kernel_rfl) Try.func5 (by kernel_rfl)
    (of_decide_eq_true (by kernel_rfl)) (by unfold Func.isWrapper; first | (rw [if_pos (by decide +kernel)]; kernel_rfl) | (rw [if_neg (by decide +kernel)]; exact ⟨rfl, rfl⟩))
    (fun os started H enc _ => stateClosed_lifted os started H enc)
theorem stateClosed_proved : Rows.StateClosedSaid := stateClosed_over
#print axioms stateClosed_proved
end Go.Proofs.Ythepejljgolcoaa
