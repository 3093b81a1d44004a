/- Joined from: HOf. -/
import Derived.Test.YthehcbbdkiomnaaJ04
import Derived.Test.YthehcbbdkiomnaaJ05
import Derived.Test.YthehcbbdkiomnaaJ01
import Derived.Test.YthehcbbdkiomnaaJ03
import Derived.Test.YthehcbbdkiomnaaJ07
import Derived.Test.YthehcbbdkiomnaaJ06
section

/- chain.chainOf: the chain that has just some bytes. Conditions: as many bytes as the slice says, no more than a hundred million. -/
namespace Go.Proofs.Ythehcbbdkiomnaa
open Go.RowKit Go.Lib

theorem num_tk (L : List UInt8) (o k : Nat) : ∀ s, k + s ≤ o → num (L.take o) k s = num L k s
  | 0, _ => rfl
  | s + 1, h => by
    rw [num, num, num_tk L o k s (by omega)]
    congr 2
    simp only [List.getD_eq_getElem?_getD, List.getElem?_take]
    rw [if_pos (by omega)]
theorem num_dp (L : List UInt8) (o k : Nat) : ∀ s, num (L.drop o) k s = num L (o + k) s
  | 0 => rfl
  | s + 1 => by
    rw [num, num, num_dp L o k s]
    congr 2
    simp only [List.getD_eq_getElem?_getD, List.getElem?_drop, Nat.add_assoc]
theorem rest_zh (a : Option Addr) (n c k : Nat) (z : Int) (hz : z = (k : Nat)) (w : World) (hk : k ≤ n) (hn : n ≤ c) (hc : c ≤ maxLen) :
    Calls Try.prog 63 #[.agg #[.slice a n c], .int .i64 z] w fun e w' => e = .returned (.agg #[.slice (adv a c k) (n - k) (c - k)]) ∧ Below w.heap.size w w' := by
  subst hz
  exact rest_ok a n c k w hk hn hc
theorem info_rule : (Try.prog.info? 85).map (fun i => (i.zero, i.size, i.bytes)) = some (some (.agg #[.int .i64 0, .int .i64 0, .int .u32 0, .int .u32 0]), 4, 24) := by kernel_rfl
theorem info_sub : (Try.prog.info? 91).map (fun i => (i.zero, i.size, i.bytes)) = some (some (.agg #[.int .u32 0, .int .u32 0, .slice none 0 0]), 3, 32) := by kernel_rfl
theorem new_at {w X : World} {o : Obj} (h : Below (w.alloc o).heap.size (w.alloc o) X) : X.heap[w.heap.size]? = some o := (h.block w.heap.size (by simp)).trans (by rw [heap_push, if_pos rfl])
theorem new_atd {w X : World} {o : Obj} (h : Below (w.alloc o).drew.heap.size (w.alloc o).drew X) : X.heap[w.heap.size]? = some o := new_at ((Below.refl _ _).drew.trans h)
/-- A chain's cells, and its rules' row, wherever they lie. -/
def HLeaf (V : World) (F0 N : Nat) (x5 x17 x18 : Value) (U : World) : Prop :=
  ∃ g h, x5 = .pointer (some ⟨g, 0, none⟩) ∧ x17 = .slice (some ⟨h, 0, none⟩) N N ∧ x18 = .agg #[.int .u32 (F0 : Nat), .slice (some ⟨h, 0, none⟩) N N, .slice none 0 0] ∧ U.heap[g]? = some (.cells #[.int .u32 (F0 : Nat), .slice (some ⟨h, 0, none⟩) N N, .slice none 0 0] 80 (0, 0)) ∧
    U.ownsRow V.heap.size 85 4 (.slice (some ⟨h, 0, none⟩) N N) N (zeroRu N) ∧ Below V.heap.size V U ∧ V.heap.size ≤ g
theorem hleaf_mk {V X : World} {g h F0 N : Nat} {z0 z1 z2 x5 x17 x18 : Value} (h5 : x5 = .pointer (some ⟨g, 0, none⟩)) (h17 : x17 = .slice (some ⟨h, 0, none⟩) N N) (h18 : x18 = .agg #[.int .u32 (F0 : Nat), .slice (some ⟨h, 0, none⟩) N N, .slice none 0 0]) (hX : Below V.heap.size V X) (hg : X.heap[g]? = some (.cells #[z0, z1, z2] 80 (0, 0))) (ho : X.ownsRow V.heap.size 85 4 (.slice (some ⟨h, 0, none⟩) N N) N (zeroRu N)) (hgV : V.heap.size ≤ g) :
    HLeaf V F0 N x5 x17 x18 (((X.setCell ⟨g, 0, none⟩ (.int .u32 (F0 : Nat))).setCell ⟨g, 1, none⟩ (.slice (some ⟨h, 0, none⟩) N N)).setCell ⟨g, 2, none⟩ (.slice none 0 0)) := by
  have e0 := set_heap_at (o := 0) (.int .u32 (F0 : Nat)) hg
  have e1 := set_heap_at (o := 1) (.slice (some ⟨h, 0, none⟩) N N) e0
  have e2 := set_heap_at (o := 2) (.slice none 0 0) e1
  have o0 := set_owns (o := 0) (.int .u32 (F0 : Nat)) ho (own_neE ho hg (by decide))
  have o1 := set_owns (o := 1) (.slice (some ⟨h, 0, none⟩) N N) o0 (own_neE o0 e0 (by decide))
  have o2 := set_owns (o := 2) (.slice none 0 0) o1 (own_neE o1 e1 (by decide))
  exact ⟨g, h, h5, h17, h18, e2, o2, (bset (bset (bset hX hgV _) hgV _) hgV _), hgV⟩
theorem hleaf_new {V X : World} {h F0 N : Nat} {x5 x17 x18 : Value} (h5 : x5 = .pointer (some ⟨X.heap.size, 0, none⟩)) (h17 : x17 = .slice (some ⟨h, 0, none⟩) N N) (h18 : x18 = .agg #[.int .u32 (F0 : Nat), .slice (some ⟨h, 0, none⟩) N N, .slice none 0 0]) (hX : Below V.heap.size V X) (ho : X.ownsRow V.heap.size 85 4 (.slice (some ⟨h, 0, none⟩) N N) N (zeroRu N)) :
    HLeaf V F0 N x5 x17 x18 (X.alloc (.cells #[.int .u32 (F0 : Nat), .slice (some ⟨h, 0, none⟩) N N, .slice none 0 0] 80)) :=
  ⟨X.heap.size, h, h5, h17, h18, by rw [heap_push, if_pos rfl], owns_below ho (balloc (brefl _) _) (Nat.le_refl _), balloc hX _, hX.size⟩
theorem owns_set4 {w : World} {base n g c : Nat} {e : TypeId} {xs : List Value} (h : w.ownsRow base e 4 (.slice (some ⟨g, 0, none⟩) n c) n xs) (j : Nat) (hj : j < n) (v0 v1 v2 v3 : Value) :
    ((((w.setCell ⟨g, j * 4, none⟩ v0).setCell ⟨g, j * 4 + 1, none⟩ v1).setCell ⟨g, j * 4 + 2, none⟩ v2).setCell ⟨g, j * 4 + 3, none⟩ v3).ownsRow base e 4 (.slice (some ⟨g, 0, none⟩) n c) n ((((xs.set (j * 4) v0).set (j * 4 + 1) v1).set (j * 4 + 2) v2).set (j * 4 + 3) v3) := by
  obtain ⟨_, _, _, e0, _, _, _, _, _, s0⟩ := row_at h (j * 4) (by omega)
  cases e0
  obtain ⟨_, _, _, e1, _, _, _, _, _, s1⟩ := row_at (s0 v0) (j * 4 + 1) (by omega)
  cases e1
  obtain ⟨_, _, _, e2, _, _, _, _, _, s2⟩ := row_at (s1 v1) (j * 4 + 2) (by omega)
  cases e2
  obtain ⟨_, _, _, e3, _, _, _, _, _, s3⟩ := row_at (s2 v2) (j * 4 + 3) (by omega)
  cases e3
  exact s3 v3
/-- What it answers. -/
def ChainOfIs (L : Nat) (cb : List UInt8) (w : World) (e : Ending) (w' : World) : Prop :=
  ((∃ r : ChR, ChOk cb ∧ r.d = chD cb ∧ e = .returned (.agg r.enc.toArray) ∧ r.Is L w') ∨ (¬ ChOk cb ∧ e = .panicked thrown)) ∧ Below w.heap.size w w'
def rowR (cb : List UInt8) (P j : Nat) : List UInt8 := (((cb.drop 16).take P).drop (12 * j)).take 12
theorem rowR_num (cb : List UInt8) (P j k s : Nat) (h : k + s ≤ 12) (hP : 12 * j + 12 ≤ P) : num (rowR cb P j) k s = num cb (16 + 12 * j + k) s := by
  unfold rowR
  rw [num_tk _ _ _ _ h, num_dp, num_tk _ _ _ _ (by omega), num_dp, ← Nat.add_assoc]
theorem ruleV_row (cb : List UInt8) (P j : Nat) (hP : 12 * j + 12 ≤ P) : ruleV (rowR cb P j) = (ruD cb (16 + 12 * j)).enc := by
  unfold ruleV
  rw [rowR_num cb P j 0 2 (by omega) hP, rowR_num cb P j 2 2 (by omega) hP, rowR_num cb P j 4 4 (by omega) hP, rowR_num cb P j 8 4 (by omega) hP]
  rfl
/-- One rule more is laid. -/
theorem setRu (l : List RuD) (r : RuD) (m : Nat) : (((((ruDV l ++ zeroRu (m + 1)).set (l.length * 4) (.int .i64 (r.t : Nat))).set (l.length * 4 + 1) (.int .i64 (r.v : Nat))).set (l.length * 4 + 2) (.int .u32 (r.en : Nat))).set (l.length * 4 + 3) (.int .u32 (r.di : Nat))) = ruDV (l ++ [r]) ++ zeroRu m := by
  have hl := ruDV_length l
  have e : zeroRu (m + 1) = [.int .i64 0, .int .i64 0, .int .u32 0, .int .u32 0] ++ zeroRu m := rfl
  rw [e, ruDV_snoc, List.append_assoc]
  rw [List.set_append_right _ _ (by omega), List.set_append_right _ _ (by omega), List.set_append_right _ _ (by omega), List.set_append_right _ _ (by omega)]
  simp only [hl, Nat.sub_self, Nat.add_sub_cancel_left]
  rfl
def SRel (L n M F0 N P : Nat) (cb : List UInt8) (g5 g7 gh : Nat) (V : World) (i : Value) (wr : World) : Prop :=
  ∃ (k : Nat) (srs : List SubR) (aS : Option Addr) (cS : Nat) (aR : Option Addr) (cR : Nat), k ≤ M ∧ i = .int .i64 (k : Nat) ∧ srs.length = k ∧ (∀ q, q < k → fitS cb (posS cb (16 + P) q)) ∧ srs.map SubR.d = subsD cb k ∧ (∀ s ∈ srs, s.Is L wr) ∧
    wr.heap[g5]? = some (.cells #[.int .u32 (F0 : Nat), .slice (some ⟨gh, 0, none⟩) N N, .slice aS k cS] 80 (0, 0)) ∧ wr.ownsRow V.heap.size 91 3 (.slice aS k cS) k (subRV srs) ∧
    wr.heap[g7]? = some (.cells #[.slice aR (n - posS cb (16 + P) k) cR] 89 (0, 0)) ∧ BHas L aR (cb.drop (posS cb (16 + P) k)) wr ∧ n - posS cb (16 + P) k ≤ cR ∧ cR ≤ maxLen ∧ HasT 85 wr (some ⟨gh, 0, none⟩) (ruDV (rulesD cb N)) ∧ Below V.heap.size V wr
set_option maxRecDepth 100000 in
set_option maxHeartbeats 6400000 in
theorem chainOf_any (L : Nat) (a : Option Addr) (n c : Nat) (cb : List UInt8) (w : World) (h : BHas L a cb w) (hl : cb.length = n) (hn : n ≤ c) (hc : c ≤ maxLen) (hsz : n ≤ 100000000) (hLw : L ≤ w.heap.size) :
    Calls Try.prog 66 #[.agg #[.slice a n c]] w (ChainOfIs L cb w) := by
  have hAC := allocC
  have hAF := allocF
  unfold ChainOfIs
  by_cases h12 : 12 ≤ n
  case neg =>
    have HNO := Lib.hid (show ¬ ChOk cb from fun h => h12 (by have := h.len; omega))
    have HU := Lib.hid (fun W => u32_bad a n c 8 W (by omega) hn hc)
    clear h hl h12
    go_enter Try.func66, Try.ntmps66
    go_wp2_with (first | (go_at_call 64; (with_reducible refine (HU.out _).mono ?_); rintro e w1 ⟨rfl, hb1⟩; have h1c := bc hb1; have h1f := bf hb1; have h1z := hb1.size; try simp only [World.size_alloc, World.size_drew] at h1z))
    exact ⟨rfl, .inr ⟨HNO.out, rfl⟩, blw⟩
  have HU8 := Lib.hid (fun W (hW : Below w.heap.size w W) => u32_z a n c 8 8 rfl cb W (h.has.below hW) hl (by omega) hn hc)
  have hN4 := num4_lt cb 8
  by_cases hrow : 16 + 12 * num cb 8 4 ≤ n
  case neg =>
    have HNO := Lib.hid (show ¬ ChOk cb from fun h => hrow (by have := h.rules; omega))
    have HR := Lib.hid (fun W => rows_bad a n c 16 ((num cb 8 4 : Nat) : Int) 12 W (by omega) (by omega) (by
      rintro ⟨_, _, _, _, hy | hy⟩
      · omega
      · simp only [Int.toNat_natCast] at hy
        rw [show (12 : Int).toNat = 12 from rfl, show (16 : Int).toNat = 16 from rfl] at hy
        have := (Nat.le_div_iff_mul_le (show 0 < 12 by omega)).1 hy
        omega) hn hc)
    clear h hl h12 hrow
    generalize num cb 8 4 = N at *
    go_enter Try.func66, Try.ntmps66
    go_wp2_with (first | (go_at_call 64; (with_reducible refine (HU8.out _ (by exact blw)).mono ?_); rintro e w1 ⟨rfl, hb1⟩; have h1c := bc hb1; have h1f := bf hb1; have h1z := hb1.size; try simp only [World.size_alloc, World.size_drew] at h1z) | (go_at_call 90; (with_reducible refine (HR.out _).mono ?_); rintro e w2 ⟨rfl, hb2⟩; have h2c := bc hb2; have h2f := bf hb2; have h2z := hb2.size; try simp only [World.size_alloc, World.size_drew] at h2z))
    exact ⟨rfl, .inr ⟨HNO.out, rfl⟩, blw⟩
  obtain ⟨P, hP⟩ : ∃ P, P = num cb 8 4 * 12 := ⟨_, rfl⟩
  have HR := Lib.hid (fun W => rows_z a n c 16 (num cb 8 4) 12 P 16 ((num cb 8 4 : Nat) : Int) 12 rfl rfl rfl W hP.symm (by omega) (.inr (by omega)) (by omega) (by omega) hn hc)
  have HL0 := Lib.hid (fun W (hW : Below w.heap.size w W) => long_ok a n c 0 0 rfl cb W (h.has.below hW) hl (by omega) hn hc)
  have HU12 := Lib.hid (fun W (hW : Below w.heap.size w W) => u32_z a n c 12 12 rfl cb W (h.has.below hW) hl (by omega) hn hc)
  have HRP := Lib.hid (fun W => rest_zh a n c (16 + P) (16 + (P : Int)) (by omega) W (by omega) hn hc)
  have HH := Lib.hid h
  have HL := Lib.hid hl
  have HP1 := Lib.hid (show ∀ W, Below w.heap.size w W → Has W (adv a c 16) (bytesV ((cb.drop 16).take P)) from fun W hW => by
    have := ((h.has.below hW).adv c 16 (by rw [bytesV_length, hl]; exact hn)).take P
    rwa [bytesV_drop, bytesV_take] at this)
  have HLP := Lib.hid (show ((cb.drop 16).take P).length = P from by rw [List.length_take, List.length_drop, hl]; omega)
  have HBR := Lib.hid (show BHas L (adv a c (16 + P)) (cb.drop (16 + P)) w from h.adv c (16 + P) (by omega))
  have HCH := Lib.hid (show (∀ k, k < num cb 12 4 → fitS cb (posS cb (16 + 12 * num cb 8 4) k)) → ChOk cb from fun hf => ⟨by omega, by omega, hf⟩)
  have HNOC := Lib.hid (show ∀ k, k < num cb 12 4 → ¬ fitS cb (posS cb (16 + 12 * num cb 8 4) k) → ¬ ChOk cb from fun k hk hnf ho => hnf (ho.subs k hk))
  have HD := Lib.hid (show chD cb = ⟨num cb 0 4, rulesD cb (num cb 8 4), subsD cb (num cb 12 4)⟩ from rfl)
  have hp0 : 16 + 12 * num cb 8 4 = 16 + P := by omega
  have HSD := Lib.hid (show ∀ k, subsD cb (k + 1) = subsD cb k ++ [subD cb (posS cb (16 + P) k)] from fun k => by rw [subsD_succ, hp0])
  have HRD := Lib.hid (rulesD_succ cb)
  have HRL := Lib.hid (rulesD_length cb)
  have HRZ := Lib.hid (show rulesD cb 0 = [] from rfl)
  have HSZ := Lib.hid (show subsD cb 0 = [] from rfl)
  rw [hp0] at HCH HNOC
  have hF4 := num4_lt cb 0
  have hM4 := num4_lt cb 12
  have hPn : P + 16 ≤ n := by omega
  clear h hl hrow hp0
  generalize hNe : num cb 8 4 = N at *
  generalize num cb 0 4 = F0 at *
  generalize num cb 12 4 = M at *
  have HPN := Lib.hid hP
  have hN6 : N ≤ 10000000 := by omega
  have hPc : P ≤ c - 16 := by omega
  have hCc : c - 16 ≤ maxLen := Nat.le_trans (Nat.sub_le _ _) hc
  have hN12 : N * 12 + 16 ≤ n := by omega
  clear hP hNe
  go_enter Try.func66, Try.ntmps66
  go_wp2_with (first | (go_at_call 64; (with_reducible refine (HU8.out _ (by exact blw)).mono ?_); rintro e w1 ⟨rfl, hb1⟩; have h1c := bc hb1; have h1f := bf hb1; have h1z := hb1.size; try simp only [World.size_alloc, World.size_drew] at h1z) | (go_at_call 90; (with_reducible refine (HR.out _).mono ?_); rintro e w2 ⟨rfl, hb2⟩; have h2c := bc hb2; have h2f := bf hb2; have h2z := hb2.size; try simp only [World.size_alloc, World.size_drew] at h2z))
  obtain ⟨V, hV⟩ : ∃ V, V = w2.alloc (Obj.cells #[.slice (adv a c 16) P (c - 16)] 89) := ⟨_, rfl⟩
  have hbV : Below w.heap.size w V := by rw [hV]; exact blw
  have hb1V : Below w1.heap.size w1 V := by rw [hV]; exact hb2.trans ((balloc (brefl w2) _).mono hb2.size)
  have z1 : V.heap[w.heap.size]? = some (.cells #[.slice a n c] 89 (0, 0)) := (hb1V.block _ (by omega)).trans ((hb1.block _ (by simp only [World.size_alloc]; omega)).trans (by rw [heap_push, if_neg (by simp only [World.size_alloc]; omega), heap_push, if_pos rfl]))
  have z2 : V.heap[w.heap.size + 1]? = some (.cells #[.int .u32 0, .slice none 0 0, .slice none 0 0] 80 (0, 0)) := (hb1V.block _ (by omega)).trans ((hb1.block _ (by simp only [World.size_alloc]; omega)).trans (by rw [heap_push, if_pos (by simp only [World.size_alloc])]))
  have z4 : V.heap[w2.heap.size]? = some (.cells #[.slice (adv a c 16) P (c - 16)] 89 (0, 0)) := by rw [hV]; exact (heap_push _ _ _).trans (if_pos rfl)
  have hg4 : w.heap.size + 1 < w2.heap.size := by omega
  have hV4 : w2.heap.size < V.heap.size := (Array.getElem?_eq_some_iff.1 z4).1
  rw [← hV]
  have HB := Lib.hid hbV
  have Z1 := Lib.hid z1
  have Z2 := Lib.hid z2
  have Z4 := Lib.hid z4
  have q1 := cell_of_heap z1 0
  have q4 := cell_of_heap z4 0
  simp only [List.getElem?_toArray, List.getElem?_cons_zero] at q1 q4
  have l1 := cell_lt q1
  have l4 := cell_lt q4
  simp only at l1 l4
  clear hV hbV hb1V z1 z2 z4 hb1 hb2 h1c h1f h1z h2c h2f h2z HU8 HR
  generalize w2.heap.size = g4 at *
  generalize adv a c 16 = A16 at *
  generalize c - 16 = C16 at *
  apply cutP (R := ∀ (x_ : Nat → Value) (W_ : World), (fun x U => HLeaf V F0 N (x 5) (x 17) (x 18) U) x_ W_ → _)
  · intro hfin_
    refine wp_region_tri (.step 0 (.step 2 (.three 1 (.two 3 (.step 4 (.step 5 (.step 6 .nil))) 5 (.step 3 (.step 4 (.step 6 .nil)))) 3 (.two 1 (.step 4 (.step 5 (.step 6 .nil))) 5 (.step 1 (.step 4 (.step 6 .nil)))) 5 (.two 1 (.step 3 (.step 4 (.step 6 .nil))) 3 (.step 1 (.step 4 (.step 6 .nil))))))) (by kernel_rfl) (by kernel_rfl) (by kernel_rfl) (by kernel_rfl) (by intro _ _ d_ _ _ h_; cases d_ <;> first | exact h_ | (dsimp +zetaDelta only at h_ ⊢; exact h_)) (fun w' => ∃ p : Wld V [], w' = p.val) (wld_start _ _) ?_
    have hG_ := @wldC V
    (refine tri_quiet gtA (by rfl) (by rfl) (fun K_ hK_ => ?_); go_big_quiet_op; refine hK_ _ ?_; clear hK_ K_)
    (refine tri_quiet gtA (by rfl) (by rfl) (fun K_ hK_ => ?_); go_big_quiet_op; refine hK_ _ ?_; clear hK_ K_)
    refine tri_three gtA gtA gtA (by rfl) (by rfl) (by rfl) (fun K_ hK_ => ?_) (fun K_ hK_ => ?_) (fun K_ hK_ => ?_)
    · have HK_ := Lib.hid hK_; clear hK_; (first | ((refine wpMakeO _ _ 77 rfl V.heap.size 85 (.agg #[.int .i64 0, .int .i64 0, .int .u32 0, .int .u32 0]) 4 24 Try.underlying77 info_rule N rfl rfl (by omega) (by unfold maxLen; omega) (by first | omega | (simp; done) | (simp; omega)) ?_; intro w4 hown hb4; have hz4 := hb4.size; have h4c := bc hb4; have h4f := bf hb4; (try simp only [World.size_alloc, World.size_drew] at hz4); have HO := Lib.hid hown; clear hown; (try dsimp only [Act.put]); (try simp only [List.setIfInBounds_toArray, List.set_cons_succ, List.set_cons_zero]))) | (go_wp2_with (first | (go_at_call 91; (with_reducible refine (HL0.out _ (HB.out.trans (Below.mono (w := V) (by exact blw) HB.out.size))).mono ?_); rintro e wa ⟨rfl, hba⟩; have hac := bc hba; have haf := bf hba; have haz := hba.size; try simp only [World.size_alloc, World.size_drew] at haz)))); refine HK_.out _ _ (wld_ofA) ?_; clear HK_
      refine tri_two gtA gtA (by rfl) (by rfl) (fun K_ hK_ => ?_) (fun K_ hK_ => ?_)
      · have HK_ := Lib.hid hK_; clear hK_; (first | ((refine wpMakeO _ _ 77 rfl V.heap.size 85 (.agg #[.int .i64 0, .int .i64 0, .int .u32 0, .int .u32 0]) 4 24 Try.underlying77 info_rule N rfl rfl (by omega) (by unfold maxLen; omega) (by first | omega | (simp; done) | (simp; omega)) ?_; intro w4 hown hb4; have hz4 := hb4.size; have h4c := bc hb4; have h4f := bf hb4; (try simp only [World.size_alloc, World.size_drew] at hz4); have HO := Lib.hid hown; clear hown; (try dsimp only [Act.put]); (try simp only [List.setIfInBounds_toArray, List.set_cons_succ, List.set_cons_zero]))) | (go_wp2_with (first | (go_at_call 91; (with_reducible refine (HL0.out _ (HB.out.trans (Below.mono (w := V) (by exact blw) HB.out.size))).mono ?_); rintro e wa ⟨rfl, hba⟩; have hac := bc hba; have haf := bf hba; have haz := hba.size; try simp only [World.size_alloc, World.size_drew] at haz)))); refine HK_.out _ _ (wld_ofA) ?_; clear HK_
        (refine tri_quiet gtA (by rfl) (by rfl) (fun K_ hK_ => ?_); go_big_quiet_op; refine hK_ _ ?_; clear hK_ K_)
        (refine tri_run gtA (by rfl) (by rfl) (fun K_ hK_ => ?_); have HK_ := Lib.hid hK_; clear hK_; (first | ((refine wpMakeO _ _ 77 rfl V.heap.size 85 (.agg #[.int .i64 0, .int .i64 0, .int .u32 0, .int .u32 0]) 4 24 Try.underlying77 info_rule N rfl rfl (by omega) (by unfold maxLen; omega) (by first | omega | (simp; done) | (simp; omega)) ?_; intro w4 hown hb4; have hz4 := hb4.size; have h4c := bc hb4; have h4f := bf hb4; (try simp only [World.size_alloc, World.size_drew] at hz4); have HO := Lib.hid hown; clear hown; (try dsimp only [Act.put]); (try simp only [List.setIfInBounds_toArray, List.set_cons_succ, List.set_cons_zero]))) | (go_wp2_with (first | (go_at_call 91; (with_reducible refine (HL0.out _ (HB.out.trans (Below.mono (w := V) (by exact blw) HB.out.size))).mono ?_); rintro e wa ⟨rfl, hba⟩; have hac := bc hba; have haf := bf hba; have haz := hba.size; try simp only [World.size_alloc, World.size_drew] at haz)))); refine HK_.out _ _ (wld_ofA) ?_; clear HK_)
        (refine tri_run gtA (by rfl) (by rfl) (fun K_ hK_ => ?_); have HK_ := Lib.hid hK_; clear hK_; (first | ((refine wpMakeO _ _ 77 rfl V.heap.size 85 (.agg #[.int .i64 0, .int .i64 0, .int .u32 0, .int .u32 0]) 4 24 Try.underlying77 info_rule N rfl rfl (by omega) (by unfold maxLen; omega) (by first | omega | (simp; done) | (simp; omega)) ?_; intro w4 hown hb4; have hz4 := hb4.size; have h4c := bc hb4; have h4f := bf hb4; (try simp only [World.size_alloc, World.size_drew] at hz4); have HO := Lib.hid hown; clear hown; (try dsimp only [Act.put]); (try simp only [List.setIfInBounds_toArray, List.set_cons_succ, List.set_cons_zero]))) | (go_wp2_with (first | (go_at_call 91; (with_reducible refine (HL0.out _ (HB.out.trans (Below.mono (w := V) (by exact blw) HB.out.size))).mono ?_); rintro e wa ⟨rfl, hba⟩; have hac := bc hba; have haf := bf hba; have haz := hba.size; try simp only [World.size_alloc, World.size_drew] at haz)))); refine HK_.out _ _ (wld_ofA) ?_; clear HK_)
        refine tri_nil ?_
        refine leaf_vals [5,17,18] (fun x U => HLeaf V F0 N (x 5) (x 17) (x 18) U) (by rfl) (by first | (simp only [blank, List.setIfInBounds_toArray, List.set_cons_succ, List.set_cons_zero]; rfl) | simp only [blank, List.setIfInBounds_toArray, List.set_cons_succ, List.set_cons_zero]) (hfin_ ()) ?_
        (simp only [World.size_alloc, World.size_drew, made_rule] at HO; first | (with_reducible refine hleaf_new ?_ ?_ ?_ ?_ ?_) | (with_reducible refine hleaf_mk (z0 := .int .u32 0) (z1 := .slice none 0 0) (z2 := .slice none 0 0) ?_ ?_ ?_ ?_ ?_ ?_ ?_)) <;> first | rfl | (simp only [World.size_alloc, World.size_drew]; rfl) | (with_reducible exact blw) | (with_reducible exact new_at (by assumption)) | (with_reducible exact new_at (bthen (by assumption) (by assumption))) | (with_reducible exact new_at (bthen (bthen (by assumption) (by assumption)) (by assumption))) | (with_reducible exact new_atd (by assumption)) | (with_reducible exact new_atd (bthen (by assumption) (by assumption))) | (with_reducible exact new_atd (bthen (bthen (by assumption) (by assumption)) (by assumption))) | (with_reducible exact HO.out) | (with_reducible exact owns_below HO.out (by assumption) (by first | omega | (simp only [World.size_alloc, World.size_drew]; omega))) | (with_reducible exact owns_below HO.out blw (by first | omega | (simp only [World.size_alloc, World.size_drew]; omega))) | omega
      · have HK_ := Lib.hid hK_; clear hK_; (first | ((refine wpMakeO _ _ 77 rfl V.heap.size 85 (.agg #[.int .i64 0, .int .i64 0, .int .u32 0, .int .u32 0]) 4 24 Try.underlying77 info_rule N rfl rfl (by omega) (by unfold maxLen; omega) (by first | omega | (simp; done) | (simp; omega)) ?_; intro w4 hown hb4; have hz4 := hb4.size; have h4c := bc hb4; have h4f := bf hb4; (try simp only [World.size_alloc, World.size_drew] at hz4); have HO := Lib.hid hown; clear hown; (try dsimp only [Act.put]); (try simp only [List.setIfInBounds_toArray, List.set_cons_succ, List.set_cons_zero]))) | (go_wp2_with (first | (go_at_call 91; (with_reducible refine (HL0.out _ (HB.out.trans (Below.mono (w := V) (by exact blw) HB.out.size))).mono ?_); rintro e wa ⟨rfl, hba⟩; have hac := bc hba; have haf := bf hba; have haz := hba.size; try simp only [World.size_alloc, World.size_drew] at haz)))); refine HK_.out _ _ (wld_ofA) ?_; clear HK_
        (refine tri_run gtA (by rfl) (by rfl) (fun K_ hK_ => ?_); have HK_ := Lib.hid hK_; clear hK_; (first | ((refine wpMakeO _ _ 77 rfl V.heap.size 85 (.agg #[.int .i64 0, .int .i64 0, .int .u32 0, .int .u32 0]) 4 24 Try.underlying77 info_rule N rfl rfl (by omega) (by unfold maxLen; omega) (by first | omega | (simp; done) | (simp; omega)) ?_; intro w4 hown hb4; have hz4 := hb4.size; have h4c := bc hb4; have h4f := bf hb4; (try simp only [World.size_alloc, World.size_drew] at hz4); have HO := Lib.hid hown; clear hown; (try dsimp only [Act.put]); (try simp only [List.setIfInBounds_toArray, List.set_cons_succ, List.set_cons_zero]))) | (go_wp2_with (first | (go_at_call 91; (with_reducible refine (HL0.out _ (HB.out.trans (Below.mono (w := V) (by exact blw) HB.out.size))).mono ?_); rintro e wa ⟨rfl, hba⟩; have hac := bc hba; have haf := bf hba; have haz := hba.size; try simp only [World.size_alloc, World.size_drew] at haz)))); refine HK_.out _ _ (wld_ofA) ?_; clear HK_)
        (refine tri_quiet gtA (by rfl) (by rfl) (fun K_ hK_ => ?_); go_big_quiet_op; refine hK_ _ ?_; clear hK_ K_)
        (refine tri_run gtA (by rfl) (by rfl) (fun K_ hK_ => ?_); have HK_ := Lib.hid hK_; clear hK_; (first | ((refine wpMakeO _ _ 77 rfl V.heap.size 85 (.agg #[.int .i64 0, .int .i64 0, .int .u32 0, .int .u32 0]) 4 24 Try.underlying77 info_rule N rfl rfl (by omega) (by unfold maxLen; omega) (by first | omega | (simp; done) | (simp; omega)) ?_; intro w4 hown hb4; have hz4 := hb4.size; have h4c := bc hb4; have h4f := bf hb4; (try simp only [World.size_alloc, World.size_drew] at hz4); have HO := Lib.hid hown; clear hown; (try dsimp only [Act.put]); (try simp only [List.setIfInBounds_toArray, List.set_cons_succ, List.set_cons_zero]))) | (go_wp2_with (first | (go_at_call 91; (with_reducible refine (HL0.out _ (HB.out.trans (Below.mono (w := V) (by exact blw) HB.out.size))).mono ?_); rintro e wa ⟨rfl, hba⟩; have hac := bc hba; have haf := bf hba; have haz := hba.size; try simp only [World.size_alloc, World.size_drew] at haz)))); refine HK_.out _ _ (wld_ofA) ?_; clear HK_)
        refine tri_nil ?_
        refine leaf_vals [5,17,18] (fun x U => HLeaf V F0 N (x 5) (x 17) (x 18) U) (by rfl) (by first | (simp only [blank, List.setIfInBounds_toArray, List.set_cons_succ, List.set_cons_zero]; rfl) | simp only [blank, List.setIfInBounds_toArray, List.set_cons_succ, List.set_cons_zero]) (hfin_ ()) ?_
        (simp only [World.size_alloc, World.size_drew, made_rule] at HO; first | (with_reducible refine hleaf_new ?_ ?_ ?_ ?_ ?_) | (with_reducible refine hleaf_mk (z0 := .int .u32 0) (z1 := .slice none 0 0) (z2 := .slice none 0 0) ?_ ?_ ?_ ?_ ?_ ?_ ?_)) <;> first | rfl | (simp only [World.size_alloc, World.size_drew]; rfl) | (with_reducible exact blw) | (with_reducible exact new_at (by assumption)) | (with_reducible exact new_at (bthen (by assumption) (by assumption))) | (with_reducible exact new_at (bthen (bthen (by assumption) (by assumption)) (by assumption))) | (with_reducible exact new_atd (by assumption)) | (with_reducible exact new_atd (bthen (by assumption) (by assumption))) | (with_reducible exact new_atd (bthen (bthen (by assumption) (by assumption)) (by assumption))) | (with_reducible exact HO.out) | (with_reducible exact owns_below HO.out (by assumption) (by first | omega | (simp only [World.size_alloc, World.size_drew]; omega))) | (with_reducible exact owns_below HO.out blw (by first | omega | (simp only [World.size_alloc, World.size_drew]; omega))) | omega
    · have HK_ := Lib.hid hK_; clear hK_; (first | ((refine wpMakeO _ _ 77 rfl V.heap.size 85 (.agg #[.int .i64 0, .int .i64 0, .int .u32 0, .int .u32 0]) 4 24 Try.underlying77 info_rule N rfl rfl (by omega) (by unfold maxLen; omega) (by first | omega | (simp; done) | (simp; omega)) ?_; intro w4 hown hb4; have hz4 := hb4.size; have h4c := bc hb4; have h4f := bf hb4; (try simp only [World.size_alloc, World.size_drew] at hz4); have HO := Lib.hid hown; clear hown; (try dsimp only [Act.put]); (try simp only [List.setIfInBounds_toArray, List.set_cons_succ, List.set_cons_zero]))) | (go_wp2_with (first | (go_at_call 91; (with_reducible refine (HL0.out _ (HB.out.trans (Below.mono (w := V) (by exact blw) HB.out.size))).mono ?_); rintro e wa ⟨rfl, hba⟩; have hac := bc hba; have haf := bf hba; have haz := hba.size; try simp only [World.size_alloc, World.size_drew] at haz)))); refine HK_.out _ _ (wld_ofA) ?_; clear HK_
      refine tri_two gtA gtA (by rfl) (by rfl) (fun K_ hK_ => ?_) (fun K_ hK_ => ?_)
      · have HK_ := Lib.hid hK_; clear hK_; (first | ((refine wpMakeO _ _ 77 rfl V.heap.size 85 (.agg #[.int .i64 0, .int .i64 0, .int .u32 0, .int .u32 0]) 4 24 Try.underlying77 info_rule N rfl rfl (by omega) (by unfold maxLen; omega) (by first | omega | (simp; done) | (simp; omega)) ?_; intro w4 hown hb4; have hz4 := hb4.size; have h4c := bc hb4; have h4f := bf hb4; (try simp only [World.size_alloc, World.size_drew] at hz4); have HO := Lib.hid hown; clear hown; (try dsimp only [Act.put]); (try simp only [List.setIfInBounds_toArray, List.set_cons_succ, List.set_cons_zero]))) | (go_wp2_with (first | (go_at_call 91; (with_reducible refine (HL0.out _ (HB.out.trans (Below.mono (w := V) (by exact blw) HB.out.size))).mono ?_); rintro e wa ⟨rfl, hba⟩; have hac := bc hba; have haf := bf hba; have haz := hba.size; try simp only [World.size_alloc, World.size_drew] at haz)))); refine HK_.out _ _ (wld_ofA) ?_; clear HK_
        (refine tri_quiet gtA (by rfl) (by rfl) (fun K_ hK_ => ?_); go_big_quiet_op; refine hK_ _ ?_; clear hK_ K_)
        (refine tri_run gtA (by rfl) (by rfl) (fun K_ hK_ => ?_); have HK_ := Lib.hid hK_; clear hK_; (first | ((refine wpMakeO _ _ 77 rfl V.heap.size 85 (.agg #[.int .i64 0, .int .i64 0, .int .u32 0, .int .u32 0]) 4 24 Try.underlying77 info_rule N rfl rfl (by omega) (by unfold maxLen; omega) (by first | omega | (simp; done) | (simp; omega)) ?_; intro w4 hown hb4; have hz4 := hb4.size; have h4c := bc hb4; have h4f := bf hb4; (try simp only [World.size_alloc, World.size_drew] at hz4); have HO := Lib.hid hown; clear hown; (try dsimp only [Act.put]); (try simp only [List.setIfInBounds_toArray, List.set_cons_succ, List.set_cons_zero]))) | (go_wp2_with (first | (go_at_call 91; (with_reducible refine (HL0.out _ (HB.out.trans (Below.mono (w := V) (by exact blw) HB.out.size))).mono ?_); rintro e wa ⟨rfl, hba⟩; have hac := bc hba; have haf := bf hba; have haz := hba.size; try simp only [World.size_alloc, World.size_drew] at haz)))); refine HK_.out _ _ (wld_ofA) ?_; clear HK_)
        (refine tri_run gtA (by rfl) (by rfl) (fun K_ hK_ => ?_); have HK_ := Lib.hid hK_; clear hK_; (first | ((refine wpMakeO _ _ 77 rfl V.heap.size 85 (.agg #[.int .i64 0, .int .i64 0, .int .u32 0, .int .u32 0]) 4 24 Try.underlying77 info_rule N rfl rfl (by omega) (by unfold maxLen; omega) (by first | omega | (simp; done) | (simp; omega)) ?_; intro w4 hown hb4; have hz4 := hb4.size; have h4c := bc hb4; have h4f := bf hb4; (try simp only [World.size_alloc, World.size_drew] at hz4); have HO := Lib.hid hown; clear hown; (try dsimp only [Act.put]); (try simp only [List.setIfInBounds_toArray, List.set_cons_succ, List.set_cons_zero]))) | (go_wp2_with (first | (go_at_call 91; (with_reducible refine (HL0.out _ (HB.out.trans (Below.mono (w := V) (by exact blw) HB.out.size))).mono ?_); rintro e wa ⟨rfl, hba⟩; have hac := bc hba; have haf := bf hba; have haz := hba.size; try simp only [World.size_alloc, World.size_drew] at haz)))); refine HK_.out _ _ (wld_ofA) ?_; clear HK_)
        refine tri_nil ?_
        refine leaf_vals [5,17,18] (fun x U => HLeaf V F0 N (x 5) (x 17) (x 18) U) (by rfl) (by first | (simp only [blank, List.setIfInBounds_toArray, List.set_cons_succ, List.set_cons_zero]; rfl) | simp only [blank, List.setIfInBounds_toArray, List.set_cons_succ, List.set_cons_zero]) (hfin_ ()) ?_
        (simp only [World.size_alloc, World.size_drew, made_rule] at HO; first | (with_reducible refine hleaf_new ?_ ?_ ?_ ?_ ?_) | (with_reducible refine hleaf_mk (z0 := .int .u32 0) (z1 := .slice none 0 0) (z2 := .slice none 0 0) ?_ ?_ ?_ ?_ ?_ ?_ ?_)) <;> first | rfl | (simp only [World.size_alloc, World.size_drew]; rfl) | (with_reducible exact blw) | (with_reducible exact new_at (by assumption)) | (with_reducible exact new_at (bthen (by assumption) (by assumption))) | (with_reducible exact new_at (bthen (bthen (by assumption) (by assumption)) (by assumption))) | (with_reducible exact new_atd (by assumption)) | (with_reducible exact new_atd (bthen (by assumption) (by assumption))) | (with_reducible exact new_atd (bthen (bthen (by assumption) (by assumption)) (by assumption))) | (with_reducible exact HO.out) | (with_reducible exact owns_below HO.out (by assumption) (by first | omega | (simp only [World.size_alloc, World.size_drew]; omega))) | (with_reducible exact owns_below HO.out blw (by first | omega | (simp only [World.size_alloc, World.size_drew]; omega))) | omega
      · have HK_ := Lib.hid hK_; clear hK_; (first | ((refine wpMakeO _ _ 77 rfl V.heap.size 85 (.agg #[.int .i64 0, .int .i64 0, .int .u32 0, .int .u32 0]) 4 24 Try.underlying77 info_rule N rfl rfl (by omega) (by unfold maxLen; omega) (by first | omega | (simp; done) | (simp; omega)) ?_; intro w4 hown hb4; have hz4 := hb4.size; have h4c := bc hb4; have h4f := bf hb4; (try simp only [World.size_alloc, World.size_drew] at hz4); have HO := Lib.hid hown; clear hown; (try dsimp only [Act.put]); (try simp only [List.setIfInBounds_toArray, List.set_cons_succ, List.set_cons_zero]))) | (go_wp2_with (first | (go_at_call 91; (with_reducible refine (HL0.out _ (HB.out.trans (Below.mono (w := V) (by exact blw) HB.out.size))).mono ?_); rintro e wa ⟨rfl, hba⟩; have hac := bc hba; have haf := bf hba; have haz := hba.size; try simp only [World.size_alloc, World.size_drew] at haz)))); refine HK_.out _ _ (wld_ofA) ?_; clear HK_
        (refine tri_run gtA (by rfl) (by rfl) (fun K_ hK_ => ?_); have HK_ := Lib.hid hK_; clear hK_; (first | ((refine wpMakeO _ _ 77 rfl V.heap.size 85 (.agg #[.int .i64 0, .int .i64 0, .int .u32 0, .int .u32 0]) 4 24 Try.underlying77 info_rule N rfl rfl (by omega) (by unfold maxLen; omega) (by first | omega | (simp; done) | (simp; omega)) ?_; intro w4 hown hb4; have hz4 := hb4.size; have h4c := bc hb4; have h4f := bf hb4; (try simp only [World.size_alloc, World.size_drew] at hz4); have HO := Lib.hid hown; clear hown; (try dsimp only [Act.put]); (try simp only [List.setIfInBounds_toArray, List.set_cons_succ, List.set_cons_zero]))) | (go_wp2_with (first | (go_at_call 91; (with_reducible refine (HL0.out _ (HB.out.trans (Below.mono (w := V) (by exact blw) HB.out.size))).mono ?_); rintro e wa ⟨rfl, hba⟩; have hac := bc hba; have haf := bf hba; have haz := hba.size; try simp only [World.size_alloc, World.size_drew] at haz)))); refine HK_.out _ _ (wld_ofA) ?_; clear HK_)
        (refine tri_quiet gtA (by rfl) (by rfl) (fun K_ hK_ => ?_); go_big_quiet_op; refine hK_ _ ?_; clear hK_ K_)
        (refine tri_run gtA (by rfl) (by rfl) (fun K_ hK_ => ?_); have HK_ := Lib.hid hK_; clear hK_; (first | ((refine wpMakeO _ _ 77 rfl V.heap.size 85 (.agg #[.int .i64 0, .int .i64 0, .int .u32 0, .int .u32 0]) 4 24 Try.underlying77 info_rule N rfl rfl (by omega) (by unfold maxLen; omega) (by first | omega | (simp; done) | (simp; omega)) ?_; intro w4 hown hb4; have hz4 := hb4.size; have h4c := bc hb4; have h4f := bf hb4; (try simp only [World.size_alloc, World.size_drew] at hz4); have HO := Lib.hid hown; clear hown; (try dsimp only [Act.put]); (try simp only [List.setIfInBounds_toArray, List.set_cons_succ, List.set_cons_zero]))) | (go_wp2_with (first | (go_at_call 91; (with_reducible refine (HL0.out _ (HB.out.trans (Below.mono (w := V) (by exact blw) HB.out.size))).mono ?_); rintro e wa ⟨rfl, hba⟩; have hac := bc hba; have haf := bf hba; have haz := hba.size; try simp only [World.size_alloc, World.size_drew] at haz)))); refine HK_.out _ _ (wld_ofA) ?_; clear HK_)
        refine tri_nil ?_
        refine leaf_vals [5,17,18] (fun x U => HLeaf V F0 N (x 5) (x 17) (x 18) U) (by rfl) (by first | (simp only [blank, List.setIfInBounds_toArray, List.set_cons_succ, List.set_cons_zero]; rfl) | simp only [blank, List.setIfInBounds_toArray, List.set_cons_succ, List.set_cons_zero]) (hfin_ ()) ?_
        (simp only [World.size_alloc, World.size_drew, made_rule] at HO; first | (with_reducible refine hleaf_new ?_ ?_ ?_ ?_ ?_) | (with_reducible refine hleaf_mk (z0 := .int .u32 0) (z1 := .slice none 0 0) (z2 := .slice none 0 0) ?_ ?_ ?_ ?_ ?_ ?_ ?_)) <;> first | rfl | (simp only [World.size_alloc, World.size_drew]; rfl) | (with_reducible exact blw) | (with_reducible exact new_at (by assumption)) | (with_reducible exact new_at (bthen (by assumption) (by assumption))) | (with_reducible exact new_at (bthen (bthen (by assumption) (by assumption)) (by assumption))) | (with_reducible exact new_atd (by assumption)) | (with_reducible exact new_atd (bthen (by assumption) (by assumption))) | (with_reducible exact new_atd (bthen (bthen (by assumption) (by assumption)) (by assumption))) | (with_reducible exact HO.out) | (with_reducible exact owns_below HO.out (by assumption) (by first | omega | (simp only [World.size_alloc, World.size_drew]; omega))) | (with_reducible exact owns_below HO.out blw (by first | omega | (simp only [World.size_alloc, World.size_drew]; omega))) | omega
    · have HK_ := Lib.hid hK_; clear hK_; (first | ((refine wpMakeO _ _ 77 rfl V.heap.size 85 (.agg #[.int .i64 0, .int .i64 0, .int .u32 0, .int .u32 0]) 4 24 Try.underlying77 info_rule N rfl rfl (by omega) (by unfold maxLen; omega) (by first | omega | (simp; done) | (simp; omega)) ?_; intro w4 hown hb4; have hz4 := hb4.size; have h4c := bc hb4; have h4f := bf hb4; (try simp only [World.size_alloc, World.size_drew] at hz4); have HO := Lib.hid hown; clear hown; (try dsimp only [Act.put]); (try simp only [List.setIfInBounds_toArray, List.set_cons_succ, List.set_cons_zero]))) | (go_wp2_with (first | (go_at_call 91; (with_reducible refine (HL0.out _ (HB.out.trans (Below.mono (w := V) (by exact blw) HB.out.size))).mono ?_); rintro e wa ⟨rfl, hba⟩; have hac := bc hba; have haf := bf hba; have haz := hba.size; try simp only [World.size_alloc, World.size_drew] at haz)))); refine HK_.out _ _ (wld_ofA) ?_; clear HK_
      refine tri_two gtA gtA (by rfl) (by rfl) (fun K_ hK_ => ?_) (fun K_ hK_ => ?_)
      · have HK_ := Lib.hid hK_; clear hK_; (first | ((refine wpMakeO _ _ 77 rfl V.heap.size 85 (.agg #[.int .i64 0, .int .i64 0, .int .u32 0, .int .u32 0]) 4 24 Try.underlying77 info_rule N rfl rfl (by omega) (by unfold maxLen; omega) (by first | omega | (simp; done) | (simp; omega)) ?_; intro w4 hown hb4; have hz4 := hb4.size; have h4c := bc hb4; have h4f := bf hb4; (try simp only [World.size_alloc, World.size_drew] at hz4); have HO := Lib.hid hown; clear hown; (try dsimp only [Act.put]); (try simp only [List.setIfInBounds_toArray, List.set_cons_succ, List.set_cons_zero]))) | (go_wp2_with (first | (go_at_call 91; (with_reducible refine (HL0.out _ (HB.out.trans (Below.mono (w := V) (by exact blw) HB.out.size))).mono ?_); rintro e wa ⟨rfl, hba⟩; have hac := bc hba; have haf := bf hba; have haz := hba.size; try simp only [World.size_alloc, World.size_drew] at haz)))); refine HK_.out _ _ (wld_ofA) ?_; clear HK_
        (refine tri_run gtA (by rfl) (by rfl) (fun K_ hK_ => ?_); have HK_ := Lib.hid hK_; clear hK_; (first | ((refine wpMakeO _ _ 77 rfl V.heap.size 85 (.agg #[.int .i64 0, .int .i64 0, .int .u32 0, .int .u32 0]) 4 24 Try.underlying77 info_rule N rfl rfl (by omega) (by unfold maxLen; omega) (by first | omega | (simp; done) | (simp; omega)) ?_; intro w4 hown hb4; have hz4 := hb4.size; have h4c := bc hb4; have h4f := bf hb4; (try simp only [World.size_alloc, World.size_drew] at hz4); have HO := Lib.hid hown; clear hown; (try dsimp only [Act.put]); (try simp only [List.setIfInBounds_toArray, List.set_cons_succ, List.set_cons_zero]))) | (go_wp2_with (first | (go_at_call 91; (with_reducible refine (HL0.out _ (HB.out.trans (Below.mono (w := V) (by exact blw) HB.out.size))).mono ?_); rintro e wa ⟨rfl, hba⟩; have hac := bc hba; have haf := bf hba; have haz := hba.size; try simp only [World.size_alloc, World.size_drew] at haz)))); refine HK_.out _ _ (wld_ofA) ?_; clear HK_)
        (refine tri_quiet gtA (by rfl) (by rfl) (fun K_ hK_ => ?_); go_big_quiet_op; refine hK_ _ ?_; clear hK_ K_)
        (refine tri_run gtA (by rfl) (by rfl) (fun K_ hK_ => ?_); have HK_ := Lib.hid hK_; clear hK_; (first | ((refine wpMakeO _ _ 77 rfl V.heap.size 85 (.agg #[.int .i64 0, .int .i64 0, .int .u32 0, .int .u32 0]) 4 24 Try.underlying77 info_rule N rfl rfl (by omega) (by unfold maxLen; omega) (by first | omega | (simp; done) | (simp; omega)) ?_; intro w4 hown hb4; have hz4 := hb4.size; have h4c := bc hb4; have h4f := bf hb4; (try simp only [World.size_alloc, World.size_drew] at hz4); have HO := Lib.hid hown; clear hown; (try dsimp only [Act.put]); (try simp only [List.setIfInBounds_toArray, List.set_cons_succ, List.set_cons_zero]))) | (go_wp2_with (first | (go_at_call 91; (with_reducible refine (HL0.out _ (HB.out.trans (Below.mono (w := V) (by exact blw) HB.out.size))).mono ?_); rintro e wa ⟨rfl, hba⟩; have hac := bc hba; have haf := bf hba; have haz := hba.size; try simp only [World.size_alloc, World.size_drew] at haz)))); refine HK_.out _ _ (wld_ofA) ?_; clear HK_)
        refine tri_nil ?_
        refine leaf_vals [5,17,18] (fun x U => HLeaf V F0 N (x 5) (x 17) (x 18) U) (by rfl) (by first | (simp only [blank, List.setIfInBounds_toArray, List.set_cons_succ, List.set_cons_zero]; rfl) | simp only [blank, List.setIfInBounds_toArray, List.set_cons_succ, List.set_cons_zero]) (hfin_ ()) ?_
        (simp only [World.size_alloc, World.size_drew, made_rule] at HO; first | (with_reducible refine hleaf_new ?_ ?_ ?_ ?_ ?_) | (with_reducible refine hleaf_mk (z0 := .int .u32 0) (z1 := .slice none 0 0) (z2 := .slice none 0 0) ?_ ?_ ?_ ?_ ?_ ?_ ?_)) <;> first | rfl | (simp only [World.size_alloc, World.size_drew]; rfl) | (with_reducible exact blw) | (with_reducible exact new_at (by assumption)) | (with_reducible exact new_at (bthen (by assumption) (by assumption))) | (with_reducible exact new_at (bthen (bthen (by assumption) (by assumption)) (by assumption))) | (with_reducible exact new_atd (by assumption)) | (with_reducible exact new_atd (bthen (by assumption) (by assumption))) | (with_reducible exact new_atd (bthen (bthen (by assumption) (by assumption)) (by assumption))) | (with_reducible exact HO.out) | (with_reducible exact owns_below HO.out (by assumption) (by first | omega | (simp only [World.size_alloc, World.size_drew]; omega))) | (with_reducible exact owns_below HO.out blw (by first | omega | (simp only [World.size_alloc, World.size_drew]; omega))) | omega
      · have HK_ := Lib.hid hK_; clear hK_; (first | ((refine wpMakeO _ _ 77 rfl V.heap.size 85 (.agg #[.int .i64 0, .int .i64 0, .int .u32 0, .int .u32 0]) 4 24 Try.underlying77 info_rule N rfl rfl (by omega) (by unfold maxLen; omega) (by first | omega | (simp; done) | (simp; omega)) ?_; intro w4 hown hb4; have hz4 := hb4.size; have h4c := bc hb4; have h4f := bf hb4; (try simp only [World.size_alloc, World.size_drew] at hz4); have HO := Lib.hid hown; clear hown; (try dsimp only [Act.put]); (try simp only [List.setIfInBounds_toArray, List.set_cons_succ, List.set_cons_zero]))) | (go_wp2_with (first | (go_at_call 91; (with_reducible refine (HL0.out _ (HB.out.trans (Below.mono (w := V) (by exact blw) HB.out.size))).mono ?_); rintro e wa ⟨rfl, hba⟩; have hac := bc hba; have haf := bf hba; have haz := hba.size; try simp only [World.size_alloc, World.size_drew] at haz)))); refine HK_.out _ _ (wld_ofA) ?_; clear HK_
        (refine tri_run gtA (by rfl) (by rfl) (fun K_ hK_ => ?_); have HK_ := Lib.hid hK_; clear hK_; (first | ((refine wpMakeO _ _ 77 rfl V.heap.size 85 (.agg #[.int .i64 0, .int .i64 0, .int .u32 0, .int .u32 0]) 4 24 Try.underlying77 info_rule N rfl rfl (by omega) (by unfold maxLen; omega) (by first | omega | (simp; done) | (simp; omega)) ?_; intro w4 hown hb4; have hz4 := hb4.size; have h4c := bc hb4; have h4f := bf hb4; (try simp only [World.size_alloc, World.size_drew] at hz4); have HO := Lib.hid hown; clear hown; (try dsimp only [Act.put]); (try simp only [List.setIfInBounds_toArray, List.set_cons_succ, List.set_cons_zero]))) | (go_wp2_with (first | (go_at_call 91; (with_reducible refine (HL0.out _ (HB.out.trans (Below.mono (w := V) (by exact blw) HB.out.size))).mono ?_); rintro e wa ⟨rfl, hba⟩; have hac := bc hba; have haf := bf hba; have haz := hba.size; try simp only [World.size_alloc, World.size_drew] at haz)))); refine HK_.out _ _ (wld_ofA) ?_; clear HK_)
        (refine tri_quiet gtA (by rfl) (by rfl) (fun K_ hK_ => ?_); go_big_quiet_op; refine hK_ _ ?_; clear hK_ K_)
        (refine tri_run gtA (by rfl) (by rfl) (fun K_ hK_ => ?_); have HK_ := Lib.hid hK_; clear hK_; (first | ((refine wpMakeO _ _ 77 rfl V.heap.size 85 (.agg #[.int .i64 0, .int .i64 0, .int .u32 0, .int .u32 0]) 4 24 Try.underlying77 info_rule N rfl rfl (by omega) (by unfold maxLen; omega) (by first | omega | (simp; done) | (simp; omega)) ?_; intro w4 hown hb4; have hz4 := hb4.size; have h4c := bc hb4; have h4f := bf hb4; (try simp only [World.size_alloc, World.size_drew] at hz4); have HO := Lib.hid hown; clear hown; (try dsimp only [Act.put]); (try simp only [List.setIfInBounds_toArray, List.set_cons_succ, List.set_cons_zero]))) | (go_wp2_with (first | (go_at_call 91; (with_reducible refine (HL0.out _ (HB.out.trans (Below.mono (w := V) (by exact blw) HB.out.size))).mono ?_); rintro e wa ⟨rfl, hba⟩; have hac := bc hba; have haf := bf hba; have haz := hba.size; try simp only [World.size_alloc, World.size_drew] at haz)))); refine HK_.out _ _ (wld_ofA) ?_; clear HK_)
        refine tri_nil ?_
        refine leaf_vals [5,17,18] (fun x U => HLeaf V F0 N (x 5) (x 17) (x 18) U) (by rfl) (by first | (simp only [blank, List.setIfInBounds_toArray, List.set_cons_succ, List.set_cons_zero]; rfl) | simp only [blank, List.setIfInBounds_toArray, List.set_cons_succ, List.set_cons_zero]) (hfin_ ()) ?_
        (simp only [World.size_alloc, World.size_drew, made_rule] at HO; first | (with_reducible refine hleaf_new ?_ ?_ ?_ ?_ ?_) | (with_reducible refine hleaf_mk (z0 := .int .u32 0) (z1 := .slice none 0 0) (z2 := .slice none 0 0) ?_ ?_ ?_ ?_ ?_ ?_ ?_)) <;> first | rfl | (simp only [World.size_alloc, World.size_drew]; rfl) | (with_reducible exact blw) | (with_reducible exact new_at (by assumption)) | (with_reducible exact new_at (bthen (by assumption) (by assumption))) | (with_reducible exact new_at (bthen (bthen (by assumption) (by assumption)) (by assumption))) | (with_reducible exact new_atd (by assumption)) | (with_reducible exact new_atd (bthen (by assumption) (by assumption))) | (with_reducible exact new_atd (bthen (bthen (by assumption) (by assumption)) (by assumption))) | (with_reducible exact HO.out) | (with_reducible exact owns_below HO.out (by assumption) (by first | omega | (simp only [World.size_alloc, World.size_drew]; omega))) | (with_reducible exact owns_below HO.out blw (by first | omega | (simp only [World.size_alloc, World.size_drew]; omega))) | omega
  intro x U ⟨g5, gh, e5, e17, e18, hU, ho, hbU, hgV⟩
  simp only [fill, List.setIfInBounds_toArray, List.set_cons_succ, List.set_cons_zero]
  rw [e5, e17, e18]
  have HU := Lib.hid hU
  have HBU := Lib.hid hbU
  have HO0 := Lib.hid (owns_eq ho (show zeroRu N = ruDV (rulesD cb 0) ++ zeroRu (N - 0) from by rw [HRZ.out]; rfl))
  have hgh := (ho.lt gh rfl).1
  have hgn : gh ≠ g5 := by
    have := own_neE ho hU (by decide)
    intro e
    exact this (by rw [e]; rfl)
  have HNE := Lib.hid hgn
  have hzU := hbU.size
  clear hU ho hbU e5 e17 e18 q1 q4 HL0
  have l2 : w.heap.size + 1 < V.heap.size := by omega
  go_wp2_with fail
  go_loopw [20] (fun i wr => ∃ j : Nat, j ≤ N ∧ i = .int .i64 (j : Nat) ∧ wr.ownsRow V.heap.size 85 4 (.slice (some ⟨gh, 0, none⟩) N N) N (ruDV (rulesD cb j) ++ zeroRu (N - j)) ∧ wr.heap[g5]? = some (.cells #[.int .u32 (F0 : Nat), .slice (some ⟨gh, 0, none⟩) N N, .slice none 0 0] 80 (0, 0)) ∧ Below V.heap.size U wr) (fun i _ => N - (Go.RowKit.intOf i).toNat)
  case atStart => exact ⟨0, Nat.zero_le _, rfl, HO0.out, HU.out, Below.refl _ _⟩
  case round =>
    obtain ⟨j, hj, rfl, ho, h5, hb⟩ := hrel
    rename World => wr
    have HO := Lib.hid ho
    have H5 := Lib.hid h5
    have HBV := Lib.hid (HBU.out.trans hb)
    have HBW := Lib.hid (HB.out.trans (HBV.out.mono HB.out.size))
    have HBR2 := Lib.hid hb
    have hzr : V.heap.size ≤ wr.heap.size := HBV.out.size
    have k4 := (HBV.out.block _ l4).trans Z4.out
    have q4 := cell_of_heap k4 0
    have q5 := fun o => cell_of_heap h5 o
    have lg5 := (Array.getElem?_eq_some_iff.1 h5).1
    simp only [List.getElem?_toArray, List.getElem?_cons_zero] at q4
    have l4r : g4 < wr.heap.size := by omega
    clear ho h5 hb k4
    by_cases hlt : j < N
    · have hP12 : 12 * j + 12 ≤ P := by rw [HPN.out]; omega
      have HC := Lib.hid (fun W => cut_z A16 P C16 (12 * j) 12 ((j : Int) * 12) 12 (by omega) rfl W hP12 hPc hCc)
      have hro := fun W (hW : Below w.heap.size w W) => ruleOf_any (adv A16 C16 (12 * j)) (C16 - 12 * j) (rowR cb P j) W (by
        have := ((HP1.out W hW).adv C16 (12 * j) (by rw [bytesV_length, HLP.out]; exact hPc)).take 12
        rw [bytesV_drop, bytesV_take] at this
        exact this) (by unfold rowR; rw [List.length_take, List.length_drop, HLP.out]; omega) (by omega) (Nat.le_trans (Nat.sub_le _ _) hCc)
      rw [ruleV_row cb P j hP12] at hro
      have hset := setRu (rulesD cb j) (ruD cb (16 + 12 * j)) (N - (j + 1))
      rw [← HRD.out j, HRL.out j, show N - (j + 1) + 1 = N - j by omega] at hset
      generalize ruD cb (16 + 12 * j) = r at *
      obtain ⟨rt, rv, re, rd⟩ := r
      simp only [RuD.enc] at hro hset
      have HRO := Lib.hid hro
      have HSET := Lib.hid hset
      obtain ⟨_, _, u0, h0e, _, _, c0, _, f0, _⟩ := row_at HO.out (j * 4) (by omega)
      obtain ⟨_, _, u1, h1e, _, _, c1, _, f1, _⟩ := row_at HO.out (j * 4 + 1) (by omega)
      obtain ⟨_, _, u2, h2e, _, _, c2, _, f2, _⟩ := row_at HO.out (j * 4 + 2) (by omega)
      obtain ⟨_, _, u3, h3e, _, _, c3, _, f3, _⟩ := row_at HO.out (j * 4 + 3) (by omega)
      cases h0e
      cases h1e
      cases h2e
      cases h3e
      have lh := cell_lt c0
      simp only at lh
      have w12 : IntKind.i64.wrap ((j : Int) * 12) = (j : Int) * 12 := IntWalk.i64_in _ (by omega)
      have dj : decide ((j : Int) < (N : Int)) = true := by simpa using hlt
      clear hro hset hP12
      generalize adv A16 C16 (12 * j) = AR at *
      generalize C16 - 12 * j = CR at *
      go_wp2_with fail
      refine wp_region_lastY (.step 0 (.step 1 (.step 2 (.step 3 (.step 4 (.step 5 (.step 6 (.step 7 (.step 8 (.step 9 .nil)))))))))) 9 (by kernel_rfl) (by kernel_rfl) (by kernel_rfl) (by kernel_rfl) (by kernel_rfl) (by intro _ _ d_ _ _ h_; cases d_ <;> first | exact h_ | (dsimp +zetaDelta only at h_ ⊢; exact h_)) (fun w' => ∃ p : Wld wr [], w' = p.val) (wld_start _ _) ?_
      have hG_ := @wldC wr
      (refine z_quiet gtA (by rfl) (by rfl) (fun K_ hK_ => ?_); go_big_quiet_op; refine hK_ _ ?_; clear hK_ K_)
      (refine z_quiet gtA (by rfl) (by rfl) (fun K_ hK_ => ?_); go_big_quiet_op; refine hK_ _ ?_; clear hK_ K_)
      (refine z_quiet gtA (by rfl) (by rfl) (fun K_ hK_ => ?_); go_big_quiet_op; refine hK_ _ ?_; clear hK_ K_)
      (refine z_quiet gtA (by rfl) (by rfl) (fun K_ hK_ => ?_); go_big_quiet_op; refine hK_ _ ?_; clear hK_ K_)
      (refine z_quiet gtA (by rfl) (by rfl) (fun K_ hK_ => ?_); go_big_quiet_op; refine hK_ _ ?_; clear hK_ K_)
      (refine z_quiet gtA (by rfl) (by rfl) (fun K_ hK_ => ?_); go_big_quiet_op; refine hK_ _ ?_; clear hK_ K_)
      (refine z_run gtA (by rfl) (by rfl) (fun K_ hK_ => ?_); have HK_ := Lib.hid hK_; clear hK_; go_wp2_with (first | (go_at_call 88; (with_reducible refine (HC.out _).mono ?_); rintro e wa ⟨rfl, hba⟩; have hac := bc hba; have haf := bf hba; have haz := hba.size; try simp only [World.size_alloc, World.size_drew] at haz) | (go_at_call 92; (with_reducible refine (HRO.out _ (HBW.out.trans (Below.mono (w := wr) (by exact blw) HBW.out.size))).mono ?_); rintro e wb ⟨rfl, hbb⟩; have hbc := bc hbb; have hbf := bf hbb; have hbz := hbb.size; try simp only [World.size_alloc, World.size_drew] at hbz)); refine HK_.out _ _ (wld_ofA) ?_; clear HK_)
      (refine z_run gtA (by rfl) (by rfl) (fun K_ hK_ => ?_); have HK_ := Lib.hid hK_; clear hK_; go_wp2_with (first | (go_at_call 88; (with_reducible refine (HC.out _).mono ?_); rintro e wa ⟨rfl, hba⟩; have hac := bc hba; have haf := bf hba; have haz := hba.size; try simp only [World.size_alloc, World.size_drew] at haz) | (go_at_call 92; (with_reducible refine (HRO.out _ (HBW.out.trans (Below.mono (w := wr) (by exact blw) HBW.out.size))).mono ?_); rintro e wb ⟨rfl, hbb⟩; have hbc := bc hbb; have hbf := bf hbb; have hbz := hbb.size; try simp only [World.size_alloc, World.size_drew] at hbz)); refine HK_.out _ _ (wld_ofA) ?_; clear HK_)
      (refine z_quiet gtA (by rfl) (by rfl) (fun K_ hK_ => ?_); go_big_quiet_op; refine hK_ _ ?_; clear hK_ K_)
      (refine z_last gtA (by rfl) (by rfl) (by rfl) (fun K_ hK_ => ?_); have HK_ := Lib.hid hK_; clear hK_; go_wp2_with (first | (go_at_call 88; (with_reducible refine (HC.out _).mono ?_); rintro e wa ⟨rfl, hba⟩; have hac := bc hba; have haf := bf hba; have haz := hba.size; try simp only [World.size_alloc, World.size_drew] at haz) | (go_at_call 92; (with_reducible refine (HRO.out _ (HBW.out.trans (Below.mono (w := wr) (by exact blw) HBW.out.size))).mono ?_); rintro e wb ⟨rfl, hbb⟩; have hbc := bc hbb; have hbf := bf hbb; have hbz := hbb.size; try simp only [World.size_alloc, World.size_drew] at hbz)); refine HK_.out _ _ ?_; clear HK_)
      refine z_nil ?_
      clear hG_
      have hB := (show Below wr.heap.size wr wb from blw)
      have HON := Lib.hid (owns_eq (owns_set4 (owns_below HO.out hB (Nat.le_refl _)) j hlt (.int .i64 (rt : Nat)) (.int .i64 (rv : Nat)) (.int .u32 (re : Nat)) (.int .u32 (rd : Nat))) HSET.out)
      have hg5n : g5 ≠ gh := fun e => HNE.out e.symm
      have H5N := Lib.hid ((set_heap_other (o := j * 4 + 3) (.int .u32 (rd : Nat)) hg5n).trans ((set_heap_other (o := j * 4 + 2) (.int .u32 (re : Nat)) hg5n).trans ((set_heap_other (o := j * 4 + 1) (.int .i64 (rv : Nat)) hg5n).trans ((set_heap_other (o := j * 4) (.int .i64 (rt : Nat)) hg5n).trans ((hB.block _ lg5).trans H5.out)))))
      have hBU2 := HBR2.out.trans (hB.mono hzr)
      have HBN := Lib.hid ((((hBU2.setCell (p := ⟨gh, j * 4, none⟩) hgh (.int .i64 (rt : Nat))).setCell (p := ⟨gh, j * 4 + 1, none⟩) hgh (.int .i64 (rv : Nat))).setCell (p := ⟨gh, j * 4 + 2, none⟩) hgh (.int .u32 (re : Nat))).setCell (p := ⟨gh, j * 4 + 3, none⟩) hgh (.int .u32 (rd : Nat)))
      clear hB hBU2
      go_wp2_with fail
      go_roundw
      case rel => exact ⟨j + 1, hlt, by go_num, HON.out, H5N.out, HBN.out⟩
      case measure => simp [Go.RowKit.intOf]; omega
    · obtain rfl : N = j := by omega
      have dj : decide ((N : Int) < (N : Int)) = false := by simp
      have HRW := Lib.hid (show HasT 85 wr (some ⟨gh, 0, none⟩) (ruDV (rulesD cb N)) from by
        have := hasT_of_owns HO.out
        rwa [Nat.sub_self, show zeroRu 0 = [] from rfl, List.append_nil] at this)
      have k1 := (HBV.out.block _ l1).trans Z1.out
      have q1 := cell_of_heap k1 0
      simp only [List.getElem?_toArray, List.getElem?_cons_zero] at q1
      have l1r : w.heap.size < wr.heap.size := by omega
      have hcP : c - (16 + P) ≤ maxLen := Nat.le_trans (Nat.sub_le _ _) hc
      have hnP : n - (16 + P) ≤ c - (16 + P) := by omega
      have HBRW := Lib.hid (HBR.out.below HBW.out)
      clear k1 hlt hj
      generalize adv a c (16 + P) = AQ at *
      generalize hcq : c - (16 + P) = CQ at *
      generalize hnq : n - (16 + P) = NQ at *
      have w16 : IntKind.i64.wrap (16 + (P : Int)) = 16 + (P : Int) := IntWalk.i64_in _ (by omega)
      go_wp2_with fail
      apply cutP (R := ∀ (g_ : Nat) (x_ : Nat → Value) (W_ : World), (fun g7 U7 => Below wr.heap.size wr U7 ∧ wr.heap.size ≤ g7 ∧ U7.heap[g7]? = some (.cells #[.slice AQ NQ CQ] 89 (0, 0))) g_ W_ → _)
      · intro hfin_
        refine wp_region_tree (.step 0 (.step 1 (.two 2 (.step 3 (.two 4 (.step 5 (.step 6 .nil)) 5 (.step 4 (.step 6 .nil)))) 5 (.step 2 (.step 3 (.step 4 (.step 6 .nil))))))) (by kernel_rfl) (by kernel_rfl) (by kernel_rfl) (by kernel_rfl) (by intro _ _ d_ _ _ h_; cases d_ <;> first | exact h_ | (dsimp +zetaDelta only at h_ ⊢; exact h_)) (fun w' => ∃ p : Wld wr [], w' = p.val) (wld_start _ _) ?_
        have hG_ := @wldC wr
        (refine tree_quiet gtA (by rfl) (by rfl) (fun K_ hK_ => ?_); go_big_quiet_op; refine hK_ _ ?_; clear hK_ K_)
        (refine tree_quiet gtA (by rfl) (by rfl) (fun K_ hK_ => ?_); go_big_quiet_op; refine hK_ _ ?_; clear hK_ K_)
        refine tree_two gtA gtA (by rfl) (by rfl) (fun K_ hK_ => ?_) (fun K_ hK_ => ?_)
        · have HK_ := Lib.hid hK_; clear hK_; go_wp2_with (first | (go_at_call 55; (with_reducible refine (len_any _ _ _ _).mono ?_); rintro e wa ⟨rfl, hba⟩; have hac := bc hba; have haf := bf hba; have haz := hba.size; try simp only [World.size_alloc, World.size_drew] at haz) | (go_at_call 63; (with_reducible refine (HRP.out _).mono ?_); rintro e wb ⟨rfl, hbb⟩; have hbc := bc hbb; have hbf := bf hbb; have hbz := hbb.size; try simp only [World.size_alloc, World.size_drew] at hbz)); refine HK_.out _ _ (wld_ofA) ?_; clear HK_
          (refine tree_quiet gtA (by rfl) (by rfl) (fun K_ hK_ => ?_); go_big_quiet_op; refine hK_ _ ?_; clear hK_ K_)
          refine tree_two gtA gtA (by rfl) (by rfl) (fun K_ hK_ => ?_) (fun K_ hK_ => ?_)
          · have HK_ := Lib.hid hK_; clear hK_; go_wp2_with (first | (go_at_call 55; (with_reducible refine (len_any _ _ _ _).mono ?_); rintro e wa ⟨rfl, hba⟩; have hac := bc hba; have haf := bf hba; have haz := hba.size; try simp only [World.size_alloc, World.size_drew] at haz) | (go_at_call 63; (with_reducible refine (HRP.out _).mono ?_); rintro e wb ⟨rfl, hbb⟩; have hbc := bc hbb; have hbf := bf hbb; have hbz := hbb.size; try simp only [World.size_alloc, World.size_drew] at hbz)); refine HK_.out _ _ (wld_ofA) ?_; clear HK_
            (refine tree_run gtA (by rfl) (by rfl) (fun K_ hK_ => ?_); have HK_ := Lib.hid hK_; clear hK_; go_wp2_with (first | (go_at_call 55; (with_reducible refine (len_any _ _ _ _).mono ?_); rintro e wa ⟨rfl, hba⟩; have hac := bc hba; have haf := bf hba; have haz := hba.size; try simp only [World.size_alloc, World.size_drew] at haz) | (go_at_call 63; (with_reducible refine (HRP.out _).mono ?_); rintro e wb ⟨rfl, hbb⟩; have hbc := bc hbb; have hbf := bf hbb; have hbz := hbb.size; try simp only [World.size_alloc, World.size_drew] at hbz)); refine HK_.out _ _ (wld_ofA) ?_; clear HK_)
            (refine tree_run gtA (by rfl) (by rfl) (fun K_ hK_ => ?_); have HK_ := Lib.hid hK_; clear hK_; go_wp2_with (first | (go_at_call 55; (with_reducible refine (len_any _ _ _ _).mono ?_); rintro e wa ⟨rfl, hba⟩; have hac := bc hba; have haf := bf hba; have haz := hba.size; try simp only [World.size_alloc, World.size_drew] at haz) | (go_at_call 63; (with_reducible refine (HRP.out _).mono ?_); rintro e wb ⟨rfl, hbb⟩; have hbc := bc hbb; have hbf := bf hbb; have hbz := hbb.size; try simp only [World.size_alloc, World.size_drew] at hbz)); refine HK_.out _ _ (wld_ofA) ?_; clear HK_)
            refine tree_nil ?_
            refine leaf_any 7 [] (fun g7 U7 => Below wr.heap.size wr U7 ∧ wr.heap.size ≤ g7 ∧ U7.heap[g7]? = some (.cells #[.slice AQ NQ CQ] 89 (0, 0))) _ (by rfl) (by first | (simp only [blank, List.setIfInBounds_toArray, List.set_cons_succ, List.set_cons_zero]; rfl) | simp only [blank, List.setIfInBounds_toArray, List.set_cons_succ, List.set_cons_zero]) (hfin_ ()) ?_
            (refine ⟨blw, ?_, ?_⟩ <;> first | omega | (simp only [World.size_setCell, World.size_alloc, World.size_drew]; omega) | (with_reducible exact heap_set_new (by assumption)) | (with_reducible exact heap_set_new (bthen (by assumption) (by assumption))) | (with_reducible exact heap_set_newd (by assumption)) | (with_reducible exact heap_set_newd (bthen (by assumption) (by assumption))) | (rw [heap_push, if_pos rfl]; done))
          · have HK_ := Lib.hid hK_; clear hK_; go_wp2_with (first | (go_at_call 55; (with_reducible refine (len_any _ _ _ _).mono ?_); rintro e wa ⟨rfl, hba⟩; have hac := bc hba; have haf := bf hba; have haz := hba.size; try simp only [World.size_alloc, World.size_drew] at haz) | (go_at_call 63; (with_reducible refine (HRP.out _).mono ?_); rintro e wb ⟨rfl, hbb⟩; have hbc := bc hbb; have hbf := bf hbb; have hbz := hbb.size; try simp only [World.size_alloc, World.size_drew] at hbz)); refine HK_.out _ _ (wld_ofA) ?_; clear HK_
            (refine tree_run gtA (by rfl) (by rfl) (fun K_ hK_ => ?_); have HK_ := Lib.hid hK_; clear hK_; go_wp2_with (first | (go_at_call 55; (with_reducible refine (len_any _ _ _ _).mono ?_); rintro e wa ⟨rfl, hba⟩; have hac := bc hba; have haf := bf hba; have haz := hba.size; try simp only [World.size_alloc, World.size_drew] at haz) | (go_at_call 63; (with_reducible refine (HRP.out _).mono ?_); rintro e wb ⟨rfl, hbb⟩; have hbc := bc hbb; have hbf := bf hbb; have hbz := hbb.size; try simp only [World.size_alloc, World.size_drew] at hbz)); refine HK_.out _ _ (wld_ofA) ?_; clear HK_)
            (refine tree_run gtA (by rfl) (by rfl) (fun K_ hK_ => ?_); have HK_ := Lib.hid hK_; clear hK_; go_wp2_with (first | (go_at_call 55; (with_reducible refine (len_any _ _ _ _).mono ?_); rintro e wa ⟨rfl, hba⟩; have hac := bc hba; have haf := bf hba; have haz := hba.size; try simp only [World.size_alloc, World.size_drew] at haz) | (go_at_call 63; (with_reducible refine (HRP.out _).mono ?_); rintro e wb ⟨rfl, hbb⟩; have hbc := bc hbb; have hbf := bf hbb; have hbz := hbb.size; try simp only [World.size_alloc, World.size_drew] at hbz)); refine HK_.out _ _ (wld_ofA) ?_; clear HK_)
            refine tree_nil ?_
            refine leaf_any 7 [] (fun g7 U7 => Below wr.heap.size wr U7 ∧ wr.heap.size ≤ g7 ∧ U7.heap[g7]? = some (.cells #[.slice AQ NQ CQ] 89 (0, 0))) _ (by rfl) (by first | (simp only [blank, List.setIfInBounds_toArray, List.set_cons_succ, List.set_cons_zero]; rfl) | simp only [blank, List.setIfInBounds_toArray, List.set_cons_succ, List.set_cons_zero]) (hfin_ ()) ?_
            (refine ⟨blw, ?_, ?_⟩ <;> first | omega | (simp only [World.size_setCell, World.size_alloc, World.size_drew]; omega) | (with_reducible exact heap_set_new (by assumption)) | (with_reducible exact heap_set_new (bthen (by assumption) (by assumption))) | (with_reducible exact heap_set_newd (by assumption)) | (with_reducible exact heap_set_newd (bthen (by assumption) (by assumption))) | (rw [heap_push, if_pos rfl]; done))
        · have HK_ := Lib.hid hK_; clear hK_; go_wp2_with (first | (go_at_call 55; (with_reducible refine (len_any _ _ _ _).mono ?_); rintro e wa ⟨rfl, hba⟩; have hac := bc hba; have haf := bf hba; have haz := hba.size; try simp only [World.size_alloc, World.size_drew] at haz) | (go_at_call 63; (with_reducible refine (HRP.out _).mono ?_); rintro e wb ⟨rfl, hbb⟩; have hbc := bc hbb; have hbf := bf hbb; have hbz := hbb.size; try simp only [World.size_alloc, World.size_drew] at hbz)); refine HK_.out _ _ (wld_ofA) ?_; clear HK_
          (refine tree_run gtA (by rfl) (by rfl) (fun K_ hK_ => ?_); have HK_ := Lib.hid hK_; clear hK_; go_wp2_with (first | (go_at_call 55; (with_reducible refine (len_any _ _ _ _).mono ?_); rintro e wa ⟨rfl, hba⟩; have hac := bc hba; have haf := bf hba; have haz := hba.size; try simp only [World.size_alloc, World.size_drew] at haz) | (go_at_call 63; (with_reducible refine (HRP.out _).mono ?_); rintro e wb ⟨rfl, hbb⟩; have hbc := bc hbb; have hbf := bf hbb; have hbz := hbb.size; try simp only [World.size_alloc, World.size_drew] at hbz)); refine HK_.out _ _ (wld_ofA) ?_; clear HK_)
          (refine tree_quiet gtA (by rfl) (by rfl) (fun K_ hK_ => ?_); go_big_quiet_op; refine hK_ _ ?_; clear hK_ K_)
          (refine tree_run gtA (by rfl) (by rfl) (fun K_ hK_ => ?_); have HK_ := Lib.hid hK_; clear hK_; go_wp2_with (first | (go_at_call 55; (with_reducible refine (len_any _ _ _ _).mono ?_); rintro e wa ⟨rfl, hba⟩; have hac := bc hba; have haf := bf hba; have haz := hba.size; try simp only [World.size_alloc, World.size_drew] at haz) | (go_at_call 63; (with_reducible refine (HRP.out _).mono ?_); rintro e wb ⟨rfl, hbb⟩; have hbc := bc hbb; have hbf := bf hbb; have hbz := hbb.size; try simp only [World.size_alloc, World.size_drew] at hbz)); refine HK_.out _ _ (wld_ofA) ?_; clear HK_)
          (refine tree_run gtA (by rfl) (by rfl) (fun K_ hK_ => ?_); have HK_ := Lib.hid hK_; clear hK_; go_wp2_with (first | (go_at_call 55; (with_reducible refine (len_any _ _ _ _).mono ?_); rintro e wa ⟨rfl, hba⟩; have hac := bc hba; have haf := bf hba; have haz := hba.size; try simp only [World.size_alloc, World.size_drew] at haz) | (go_at_call 63; (with_reducible refine (HRP.out _).mono ?_); rintro e wb ⟨rfl, hbb⟩; have hbc := bc hbb; have hbf := bf hbb; have hbz := hbb.size; try simp only [World.size_alloc, World.size_drew] at hbz)); refine HK_.out _ _ (wld_ofA) ?_; clear HK_)
          refine tree_nil ?_
          refine leaf_any 7 [] (fun g7 U7 => Below wr.heap.size wr U7 ∧ wr.heap.size ≤ g7 ∧ U7.heap[g7]? = some (.cells #[.slice AQ NQ CQ] 89 (0, 0))) _ (by rfl) (by first | (simp only [blank, List.setIfInBounds_toArray, List.set_cons_succ, List.set_cons_zero]; rfl) | simp only [blank, List.setIfInBounds_toArray, List.set_cons_succ, List.set_cons_zero]) (hfin_ ()) ?_
          (refine ⟨blw, ?_, ?_⟩ <;> first | omega | (simp only [World.size_setCell, World.size_alloc, World.size_drew]; omega) | (with_reducible exact heap_set_new (by assumption)) | (with_reducible exact heap_set_new (bthen (by assumption) (by assumption))) | (with_reducible exact heap_set_newd (by assumption)) | (with_reducible exact heap_set_newd (bthen (by assumption) (by assumption))) | (rw [heap_push, if_pos rfl]; done))
      intro g7 x7 U7 ⟨b7, hg7, h7⟩
      simp only [fill, List.setIfInBounds_toArray, List.set_cons_succ, List.set_cons_zero]
      have HB7 := Lib.hid (HBW.out.trans (b7.mono HBW.out.size))
      have HB7V := Lib.hid (HBV.out.trans (b7.mono hzr))
      have HR7 := Lib.hid (HRW.out.below b7)
      have HQ7 := Lib.hid (HBRW.out.below b7)
      have H57 := Lib.hid ((b7.block _ lg5).trans H5.out)
      have H77 := Lib.hid h7
      have k1 := (HB7V.out.block _ l1).trans Z1.out
      have q1 := cell_of_heap k1 0
      simp only [List.getElem?_toArray, List.getElem?_cons_zero] at q1
      have l17 : w.heap.size < U7.heap.size := by have := b7.size; omega
      have h57 : g5 ≠ g7 := by omega
      have hz7 : V.heap.size ≤ g7 := by omega
      clear k1 b7 h7 q5 q4 HO HRW HBRW H5 HBR2 HBV HBW HO0 HU HBU
      go_wp2_with (first | (go_at_call 64; (with_reducible refine (HU12.out _ HB7.out).mono ?_); rintro e w9 ⟨rfl, hb9⟩; have h9c := bc hb9; have h9f := bf hb9; have h9z := hb9.size; try simp only [World.size_alloc, World.size_drew] at h9z))
      have HB9 := Lib.hid (HB7.out.trans (hb9.mono HB7.out.size))
      have HB9V := Lib.hid (HB7V.out.trans (hb9.mono HB7V.out.size))
      have H59 := Lib.hid ((hb9.block _ (Array.getElem?_eq_some_iff.1 H57.out).1).trans H57.out)
      have H79 := Lib.hid ((hb9.block _ (Array.getElem?_eq_some_iff.1 H77.out).1).trans H77.out)
      have HR9 := Lib.hid (HR7.out.below hb9)
      have HQ9 := Lib.hid (HQ7.out.below hb9)
      have hLV : L ≤ V.heap.size := Nat.le_trans hLw HB.out.size
      clear q1 hb9 h9c h9f h9z HB7 HB7V H57 H77 HR7 HQ7 HP1 HLP HU12 HRP lg5
      go_loopw [40] (SRel L n M F0 N P cb g5 g7 gh V) (fun i _ => M - (Go.RowKit.intOf i).toNat)
      case atStart => exact ⟨0, [], none, 0, AQ, CQ, Nat.zero_le _, rfl, rfl, fun q hq => by omega, by rw [HSZ.out]; rfl, fun s hs => by simp at hs, H59.out, World.ownsRow_nil _ _ _ _, by show _ = some (Obj.cells #[.slice AQ (n - (16 + P)) CQ] _ _); rw [hnq]; exact H79.out, HQ9.out, by show n - (16 + P) ≤ CQ; omega, hcP, HR9.out, HB9V.out⟩
      case round =>
        obtain ⟨k, srs, aS, cS, aR, cR, hk, rfl, hsl, hfit, hds, heach, h5, ho, h7, hq, hcap, hmax, hru, hb⟩ := hrel
        rename World => wr
        have HO := Lib.hid ho
        have HFIT := Lib.hid hfit
        have HDS := Lib.hid hds
        have HER := Lib.hid heach
        have H5R := Lib.hid h5
        have H7R := Lib.hid h7
        have HDR := Lib.hid hq
        have HRR := Lib.hid hru
        have HBV := Lib.hid hb
        have HBW := Lib.hid (HB.out.trans (hb.mono HB.out.size))
        have hzr : V.heap.size ≤ wr.heap.size := hb.size
        have hpn := posS_le (cb := cb) (p0 := 16 + P) (by rw [HL.out]; omega) k hfit
        have hpg := posS_ge (cb := cb) (p0 := 16 + P) k hfit
        have HPS := Lib.hid (show posS cb (16 + P) (k + 1) = posS cb (16 + P) k + num cb (posS cb (16 + P) k) 4 from rfl)
        have HSDK := Lib.hid (HSD.out k)
        have HNK := Lib.hid (fun hk => HNOC.out k hk)
        have HFK := Lib.hid (fun (h : fitS cb (posS cb (16 + P) k)) q (hq : q < k + 1) => show fitS cb (posS cb (16 + P) q) from by
          rcases Nat.lt_or_ge q k with g | g
          · exact HFIT.out q g
          · rw [show q = k by omega]; exact h)
        rw [HL.out] at hpn
        have lg7 := (Array.getElem?_eq_some_iff.1 h7).1
        have lg5 := (Array.getElem?_eq_some_iff.1 h5).1
        have q7 := cell_of_heap h7 0
        simp only [List.getElem?_toArray, List.getElem?_cons_zero] at q7
        clear hfit hds heach h5 ho h7 hq hru hb
        by_cases hlt : k < M
        · have dk : decide ((k : Int) < (M : Int)) = true := by simpa using hlt
          have hnk := HNK.out hlt
          generalize hp : posS cb (16 + P) k = p at *
          have HLD := Lib.hid (show (cb.drop p).length = n - p from by rw [List.length_drop, HL.out])
          have hfd : fitS cb p ↔ p + 12 ≤ n ∧ 12 ≤ num cb p 4 ∧ p + num cb p 4 ≤ n := by unfold fitS; rw [HL.out]
          have HFD := Lib.hid hfd
          clear hfd
          by_cases c4 : p + 4 ≤ n
          case neg =>
            have HNO := Lib.hid (hnk fun hf => c4 (by have := (HFD.out.1 hf).1; omega))
            have HSP := Lib.hid (fun W (_ : Below wr.heap.size wr W) => split_short aR (n - p) cR 0 0 rfl W (by omega) hcap hmax)
            clear hnk
            go_wp2_with (go_at_call 65; (with_reducible refine (HSP.out _ (by exact balloc (brefl _) _)).mono ?_); rintro e ws ⟨rfl, hbs⟩; have HBS := Lib.hid ((balloc (brefl wr) (.cells #[.slice none 0 0] 89)).trans (hbs.mono (by simp))); clear hbs)
            exact ⟨rfl, .inr ⟨HNO.out, rfl⟩, HBW.out.trans (HBS.out.mono HBW.out.size)⟩
          have hs0 : num (cb.drop p) 0 4 = num cb p 4 := by rw [num_dp, Nat.add_zero]
          have hsok := fun W (hW : Below wr.heap.size wr W) => split_ok aR (n - p) cR 0 0 rfl (cb.drop p) W (HDR.out.has.below hW) HLD.out (by omega)
          have hslo := fun W (hW : Below wr.heap.size wr W) => split_long aR (n - p) cR 0 0 rfl (cb.drop p) W (HDR.out.has.below hW) HLD.out (by omega)
          rw [hs0] at hsok hslo
          have hadv := HDR.out.adv cR (num cb p 4) (by rw [HLD.out]; exact hcap)
          have HCO := Lib.hid (show ∀ q m, q + m ≤ num cb p 4 → num ((cb.drop p).take (num cb p 4)) q m = num cb (p + q) m from fun q m hm => by rw [num_tk _ _ _ _ hm, num_dp])
          have HSB := Lib.hid (show subD cb p = ⟨num cb (p + 4) 4, num cb (p + 8) 4, (cb.drop (p + 12)).take (num cb p 4 - 12)⟩ from rfl)
          clear hs0
          generalize num cb p 4 = s at *
          by_cases cs : p + s ≤ n
          case neg =>
            have HNO := Lib.hid (hnk fun hf => cs (HFD.out.1 hf).2.2)
            have HSP := Lib.hid (fun W (hW : Below wr.heap.size wr W) => hslo W hW (by omega) hcap hmax)
            clear hnk hsok hslo hadv
            go_wp2_with (go_at_call 65; (with_reducible refine (HSP.out _ (by exact balloc (brefl _) _)).mono ?_); rintro e ws ⟨rfl, hbs⟩; have HBS := Lib.hid ((balloc (brefl wr) (.cells #[.slice none 0 0] 89)).trans (hbs.mono (by simp))); clear hbs)
            exact ⟨rfl, .inr ⟨HNO.out, rfl⟩, HBW.out.trans (HBS.out.mono HBW.out.size)⟩
          have HSP := Lib.hid (fun W (hW : Below wr.heap.size wr W) => hsok W hW (by omega) hcap hmax)
          have HAV := Lib.hid hadv
          clear hsok hslo hadv
          have HDD := Lib.hid (show (cb.drop p).drop s = cb.drop (p + s) from by rw [List.drop_drop])
          obtain ⟨AR2, hAR2⟩ : ∃ x, x = adv aR cR s := ⟨_, rfl⟩
          obtain ⟨NR2, hNR2⟩ : ∃ x, x = n - p - s := ⟨_, rfl⟩
          obtain ⟨CR2, hCR2⟩ : ∃ x, x = cR - s := ⟨_, rfl⟩
          rw [← hAR2, ← hNR2, ← hCR2] at HSP
          have HA2 := Lib.hid hAR2
          have HN2 := Lib.hid hNR2
          have HC2 := Lib.hid hCR2
          have hscR : s ≤ cR := by omega
          clear hAR2 hNR2 hCR2
          go_wp2_with (go_at_call 65; (with_reducible refine (HSP.out _ (by exact balloc (brefl _) _)).mono ?_); rintro e ws ⟨rfl, hbs⟩; have y8 := new_at hbs; have y7 := (hbs.block g7 (by simp only [World.size_alloc]; omega)).trans ((heap_push _ _ _).trans ((if_neg (by omega)).trans H7R.out)); have y5 := (hbs.block g5 (by simp only [World.size_alloc]; omega)).trans ((heap_push _ _ _).trans ((if_neg (by omega)).trans H5R.out)); have q8 := cell_of_heap y8 0; have f8 := froz_of_heap y8 0; have q7 := cell_of_heap y7 0; have f7 := froz_of_heap y7 0; have hbs2 := (balloc (brefl wr) (.cells #[.slice none 0 0] 89)).trans (hbs.mono (by simp)); have hzs := hbs2.size; have l8s := (Array.getElem?_eq_some_iff.1 y8).1; have l7s := (Array.getElem?_eq_some_iff.1 y7).1; simp only [List.getElem?_toArray, List.getElem?_cons_zero] at q8 q7; have Y8 := Lib.hid y8; have Y7 := Lib.hid y7; have Y5 := Lib.hid y5; have HBS := Lib.hid hbs2; clear y8 y7 y5 hbs hbs2)
          obtain ⟨X, hX⟩ : ∃ X, X = (ws.setCell ⟨wr.heap.size, 0, none⟩ (.slice aR s cR)).setCell ⟨g7, 0, none⟩ (.slice AR2 NR2 CR2) := ⟨_, rfl⟩
          have hg7r : g7 ≠ wr.heap.size := by omega
          have hg5r : g5 ≠ wr.heap.size := by omega
          have z8 := set_heap_at (o := 0) (.slice aR s cR) Y8.out
          have z7 := (set_heap_other (o := 0) (.slice aR s cR) hg7r).trans Y7.out
          have x8 := (set_heap_other (o := 0) (.slice AR2 NR2 CR2) (fun e => hg7r e.symm)).trans z8
          have x7 := set_heap_at (o := 0) (.slice AR2 NR2 CR2) z7
          have x5 := (set_heap_other (o := 0) (.slice AR2 NR2 CR2) h57).trans ((set_heap_other (o := 0) (.slice aR s cR) hg5r).trans Y5.out)
          simp only [List.setIfInBounds_toArray, List.set_cons_succ, List.set_cons_zero] at x8 x7
          rw [← hX] at x5 x7 x8
          have hLg : L ≤ g7 := by omega
          have hLr : L ≤ wr.heap.size := by omega
          have HOX := Lib.hid (show X.ownsRow V.heap.size 91 3 (.slice aS k cS) k (subRV srs) from by rw [hX]; exact set_owns _ (set_owns _ (owns_below HO.out HBS.out (Nat.le_refl _)) (own_neE (owns_below HO.out HBS.out (Nat.le_refl _)) Y8.out (by decide))) (own_neE (set_owns _ (owns_below HO.out HBS.out (Nat.le_refl _)) (own_neE (owns_below HO.out HBS.out (Nat.le_refl _)) Y8.out (by decide))) z7 (by decide)))
          have HRX := Lib.hid (show HasT 85 X (some ⟨gh, 0, none⟩) (ruDV (rulesD cb N)) from by rw [hX]; exact ((HRR.out.below HBS.out).set Y8.out (by decide) 0 _).set z7 (by decide) 0 _)
          have HEX := Lib.hid (show ∀ s ∈ srs, s.Is L X from by rw [hX]; exact fun s hs => (((HER.out s hs).below HBS.out).set Y8.out (by decide) hLr 0 _).set z7 (by decide) hLg 0 _)
          have HDX := Lib.hid (show BHas L aR (cb.drop p) X from by rw [hX]; exact (((HDR.out).below HBS.out).set Y8.out (by decide) hLr 0 _).set z7 (by decide) hLg 0 _)
          have HBX := Lib.hid (show Below V.heap.size V X from by rw [hX]; exact ((HBV.out.trans (HBS.out.mono hzr)).setCell (p := ⟨wr.heap.size, 0, none⟩) hzr _).setCell (p := ⟨g7, 0, none⟩) hz7 _)
          have HBXW := Lib.hid (HB.out.trans (HBX.out.mono HB.out.size))
          have H5X := Lib.hid x5
          have H7X := Lib.hid x7
          have H8X := Lib.hid x8
          have hVX : V.heap.size ≤ X.heap.size := HBX.out.size
          have l5X := (Array.getElem?_eq_some_iff.1 x5).1
          have l8X := (Array.getElem?_eq_some_iff.1 x8).1
          rw [← hX]
          clear hX z8 z7 q8 f8 q7 f7 l8s l7s hzs
          have HOB := Lib.hid (HDX.out.take s)
          have HOL := Lib.hid (show ((cb.drop p).take s).length = s from by rw [List.length_take, HLD.out]; omega)
          by_cases c12 : 12 ≤ s
          case neg =>
            have HNO := Lib.hid (hnk fun hf => c12 (HFD.out.1 hf).2.1)
            clear hnk
            by_cases c8 : 8 ≤ s
            · have H4 := Lib.hid (fun W (hW : Below X.heap.size X W) => long_ok aR s cR 4 4 rfl ((cb.drop p).take s) W (HOB.out.has.below hW) HOL.out (by omega) hscR hmax)
              have H8 := Lib.hid (fun W (_ : Below X.heap.size X W) => long_bad aR s cR 8 W (by omega) hscR hmax)
              refine wp_region_tree (.step 0 (.step 1 (.step 2 (.step 4 (.step 6 (.step 3 (.step 5 (.step 7 (.step 8 (.step 9 (.step 10 (.step 11 (.step 12 .nil))))))))))))) (by kernel_rfl) (by kernel_rfl) (by kernel_rfl) (by kernel_rfl) (by intro _ _ d_ _ _ h_; cases d_ <;> first | exact h_ | (dsimp +zetaDelta only at h_ ⊢; exact h_)) (fun w' => ∃ p : KepP (fun k_ t_ => t_ = 91 ∧ True) X, w' = p.val) (kepP_start _ _) ?_
              have hK0_ := fun (p : KepP (fun k_ t_ => t_ = 91 ∧ True) X) (o : Nat) => p.is.cell x5 (by first | (intro h_; exact absurd h_.1 (by decide)) | (intro h_; exact h_.2 rfl) | (intro h_; rcases h_ with h_ | h_ | h_ <;> exact absurd h_ (by decide)) | (intro h_; rcases h_ with h_ | h_ <;> exact absurd h_ (by decide))) o
              have hK1_ := fun (p : KepP (fun k_ t_ => t_ = 91 ∧ True) X) (o : Nat) => p.is.cell x8 (by first | (intro h_; exact absurd h_.1 (by decide)) | (intro h_; exact h_.2 rfl) | (intro h_; rcases h_ with h_ | h_ | h_ <;> exact absurd h_ (by decide)) | (intro h_; rcases h_ with h_ | h_ <;> exact absurd h_ (by decide))) o
              (refine tree_quiet gtA (by rfl) (by rfl) (fun K_ hK_ => ?_); go_big_quiet_op; refine hK_ _ ?_; clear hK_ K_)
              (refine tree_quiet gtA (by rfl) (by rfl) (fun K_ hK_ => ?_); go_big_quiet_op; refine hK_ _ ?_; clear hK_ K_)
              (refine tree_quiet gtA (by rfl) (by rfl) (fun K_ hK_ => ?_); go_big_quiet_op; refine hK_ _ ?_; clear hK_ K_)
              (refine tree_quiet gtA (by rfl) (by rfl) (fun K_ hK_ => ?_); go_big_quiet_op; refine hK_ _ ?_; clear hK_ K_)
              (refine tree_quiet gtA (by rfl) (by rfl) (fun K_ hK_ => ?_); go_big_quiet_op; refine hK_ _ ?_; clear hK_ K_)
              (refine tree_run gtA (by rfl) (by rfl) (fun K_ hK_ => ?_); have HK_ := Lib.hid hK_; clear hK_; go_wp2_with (first | (go_at_call 91; (with_reducible refine (H4.out _ (by exact blw)).mono ?_); rintro e wa ⟨rfl, hba⟩; have hac := bc hba; have haf := bf hba; have haz := hba.size; try simp only [World.size_alloc, World.size_drew] at haz) | (go_at_call 91; (with_reducible refine (H8.out _ (by exact blw)).mono ?_); rintro e wb ⟨rfl, hbb⟩; have hbc := bc hbb; have hbf := bf hbb; have hbz := hbb.size; try simp only [World.size_alloc, World.size_drew] at hbz)); refine HK_.out _ _ (kepP_ofA) ?_; clear HK_)
              (refine tree_run gtA (by rfl) (by rfl) (fun K_ hK_ => ?_); have HK_ := Lib.hid hK_; clear hK_; go_wp2_with (first | (go_at_call 91; (with_reducible refine (H4.out _ (by exact blw)).mono ?_); rintro e wa ⟨rfl, hba⟩; have hac := bc hba; have haf := bf hba; have haz := hba.size; try simp only [World.size_alloc, World.size_drew] at haz) | (go_at_call 91; (with_reducible refine (H8.out _ (by exact blw)).mono ?_); rintro e wb ⟨rfl, hbb⟩; have hbc := bc hbb; have hbf := bf hbb; have hbz := hbb.size; try simp only [World.size_alloc, World.size_drew] at hbz)); exact ⟨rfl, .inr ⟨HNO.out, rfl⟩, HBXW.out.trans (Below.mono (show Below X.heap.size X _ from blw) HBXW.out.size)⟩)
            · have H4 := Lib.hid (fun W (_ : Below X.heap.size X W) => long_bad aR s cR 4 W (by omega) hscR hmax)
              refine wp_region_tree (.step 0 (.step 1 (.step 2 (.step 4 (.step 6 (.step 3 (.step 5 (.step 7 (.step 8 (.step 9 (.step 10 (.step 11 (.step 12 .nil))))))))))))) (by kernel_rfl) (by kernel_rfl) (by kernel_rfl) (by kernel_rfl) (by intro _ _ d_ _ _ h_; cases d_ <;> first | exact h_ | (dsimp +zetaDelta only at h_ ⊢; exact h_)) (fun w' => ∃ p : KepP (fun k_ t_ => t_ = 91 ∧ True) X, w' = p.val) (kepP_start _ _) ?_
              have hK0_ := fun (p : KepP (fun k_ t_ => t_ = 91 ∧ True) X) (o : Nat) => p.is.cell x5 (by first | (intro h_; exact absurd h_.1 (by decide)) | (intro h_; exact h_.2 rfl) | (intro h_; rcases h_ with h_ | h_ | h_ <;> exact absurd h_ (by decide)) | (intro h_; rcases h_ with h_ | h_ <;> exact absurd h_ (by decide))) o
              have hK1_ := fun (p : KepP (fun k_ t_ => t_ = 91 ∧ True) X) (o : Nat) => p.is.cell x8 (by first | (intro h_; exact absurd h_.1 (by decide)) | (intro h_; exact h_.2 rfl) | (intro h_; rcases h_ with h_ | h_ | h_ <;> exact absurd h_ (by decide)) | (intro h_; rcases h_ with h_ | h_ <;> exact absurd h_ (by decide))) o
              (refine tree_quiet gtA (by rfl) (by rfl) (fun K_ hK_ => ?_); go_big_quiet_op; refine hK_ _ ?_; clear hK_ K_)
              (refine tree_quiet gtA (by rfl) (by rfl) (fun K_ hK_ => ?_); go_big_quiet_op; refine hK_ _ ?_; clear hK_ K_)
              (refine tree_quiet gtA (by rfl) (by rfl) (fun K_ hK_ => ?_); go_big_quiet_op; refine hK_ _ ?_; clear hK_ K_)
              (refine tree_quiet gtA (by rfl) (by rfl) (fun K_ hK_ => ?_); go_big_quiet_op; refine hK_ _ ?_; clear hK_ K_)
              (refine tree_quiet gtA (by rfl) (by rfl) (fun K_ hK_ => ?_); go_big_quiet_op; refine hK_ _ ?_; clear hK_ K_)
              (refine tree_run gtA (by rfl) (by rfl) (fun K_ hK_ => ?_); have HK_ := Lib.hid hK_; clear hK_; go_wp2_with (first | (go_at_call 91; (with_reducible refine (H4.out _ (by exact blw)).mono ?_); rintro e wa ⟨rfl, hba⟩; have hac := bc hba; have haf := bf hba; have haz := hba.size; try simp only [World.size_alloc, World.size_drew] at haz)); exact ⟨rfl, .inr ⟨HNO.out, rfl⟩, HBXW.out.trans (Below.mono (show Below X.heap.size X _ from blw) HBXW.out.size)⟩)
          have h4 := fun W (hW : Below X.heap.size X W) => long_ok aR s cR 4 4 rfl ((cb.drop p).take s) W (HOB.out.has.below hW) HOL.out (by omega) hscR hmax
          have h8 := fun W (hW : Below X.heap.size X W) => long_ok aR s cR 8 8 rfl ((cb.drop p).take s) W (HOB.out.has.below hW) HOL.out (by omega) hscR hmax
          rw [HCO.out 4 4 (by omega)] at h4
          rw [HCO.out 8 4 (by omega)] at h8
          have HRE := Lib.hid (fun W => rest_zh aR s cR 12 12 rfl W c12 hscR hmax)
          have hbd := HOB.out.adv cR 12 (by rw [HOL.out]; exact hscR)
          rw [List.drop_take, List.drop_drop] at hbd
          have HBD := Lib.hid hbd
          have HFS := Lib.hid (HFK.out (HFD.out.2 ⟨by omega, c12, cs⟩))
          have hsb := HSB.out
          obtain ⟨AD, hAD⟩ : ∃ x, x = adv aR cR 12 := ⟨_, rfl⟩
          obtain ⟨CD, hCD⟩ : ∃ x, x = cR - 12 := ⟨_, rfl⟩
          rw [← hAD, ← hCD] at HRE
          rw [← hAD] at HBD
          generalize num cb (p + 4) 4 = co at *
          generalize num cb (p + 8) 4 = fl at *
          have H4 := Lib.hid h4
          have H8 := Lib.hid h8
          have HSB2 := Lib.hid hsb
          have HCD := Lib.hid hCD
          have hkn : 12 * k ≤ n := by omega
          clear h4 h8 hbd hsb hAD hCD hnk HNK HSB HCO
          refine wp_region_lastY (.step 0 (.step 1 (.step 2 (.step 4 (.step 6 (.step 3 (.step 5 (.step 7 (.step 8 (.step 9 (.step 10 (.step 11 (.step 12 .nil))))))))))))) 12 (by kernel_rfl) (by kernel_rfl) (by kernel_rfl) (by kernel_rfl) (by kernel_rfl) (by intro _ _ d_ _ _ h_; cases d_ <;> first | exact h_ | (dsimp +zetaDelta only at h_ ⊢; exact h_)) (fun w' => ∃ p : KepP (fun k_ t_ => t_ = 91 ∧ True) X, w' = p.val) (kepP_start _ _) ?_
          have hK0_ := fun (p : KepP (fun k_ t_ => t_ = 91 ∧ True) X) (o : Nat) => p.is.cell x5 (by first | (intro h_; exact absurd h_.1 (by decide)) | (intro h_; exact h_.2 rfl) | (intro h_; rcases h_ with h_ | h_ | h_ <;> exact absurd h_ (by decide)) | (intro h_; rcases h_ with h_ | h_ <;> exact absurd h_ (by decide))) o
          have hK1_ := fun (p : KepP (fun k_ t_ => t_ = 91 ∧ True) X) (o : Nat) => p.is.cell x8 (by first | (intro h_; exact absurd h_.1 (by decide)) | (intro h_; exact h_.2 rfl) | (intro h_; rcases h_ with h_ | h_ | h_ <;> exact absurd h_ (by decide)) | (intro h_; rcases h_ with h_ | h_ <;> exact absurd h_ (by decide))) o
          (refine z_quiet gtA (by rfl) (by rfl) (fun K_ hK_ => ?_); go_big_quiet_op; refine hK_ _ ?_; clear hK_ K_)
          (refine z_quiet gtA (by rfl) (by rfl) (fun K_ hK_ => ?_); go_big_quiet_op; refine hK_ _ ?_; clear hK_ K_)
          (refine z_quiet gtA (by rfl) (by rfl) (fun K_ hK_ => ?_); go_big_quiet_op; refine hK_ _ ?_; clear hK_ K_)
          (refine z_quiet gtA (by rfl) (by rfl) (fun K_ hK_ => ?_); go_big_quiet_op; refine hK_ _ ?_; clear hK_ K_)
          (refine z_quiet gtA (by rfl) (by rfl) (fun K_ hK_ => ?_); go_big_quiet_op; refine hK_ _ ?_; clear hK_ K_)
          (refine z_run gtA (by rfl) (by rfl) (fun K_ hK_ => ?_); have HK_ := Lib.hid hK_; clear hK_; (first | (((refine wpAppO _ _ 78 rfl V.heap.size 91 (.agg #[.int .u32 0, .int .u32 0, .slice none 0 0]) 3 32 Try.underlying78 info_sub rfl (by decide) _ k (subRV srs) rfl (owns_below HOX.out (show Below X.heap.size X _ from blw) (Nat.le_refl _)) ⟨wq.heap.size, 0, none⟩ 1 1 [.int .u32 (co : Nat), .int .u32 (fl : Nat), .slice AD (s - 12) CD] rfl rfl (has_alloc _ _ _) (fun u hu => by simp at hu; rcases hu with rfl | rfl | rfl <;> rfl) (by unfold maxLen; omega) (by omega) (by simp; omega) ?_); intro a3 c3 w5 hown3 t31 t32 t33 hb3 hg3; have hko : KeptO (fun k_ t_ => t_ = 91 ∧ True) X w5 := (KeptO.below (show Below X.heap.size X _ from blw)).trans (KeptO.grown (owns_below HOX.out (show Below X.heap.size X _ from blw) (Nat.le_refl _)) hg3 fun m hm => ⟨rfl, trivial⟩); have hbv : Below V.heap.size X w5 := ((show Below X.heap.size X _ from blw).mono hVX).trans hb3; have hw5 := (hko.2 g5 _ _ _ H5X.out (fun h_ => absurd h_.1 (by decide))).trans H5X.out; have s5 := fun o => cell_of_heap hw5 o; have sf := fun o => froz_of_heap hw5 o; have HO5 := Lib.hid hown3; have HKO := Lib.hid hko; have HBV5 := Lib.hid hbv; have HW5 := Lib.hid hw5; have hz5 := hko.1; clear hown3 t31 t32 t33 hb3 hg3 hko hbv hw5; dsimp only [Act.put]; simp only [List.setIfInBounds_toArray, List.set_cons_succ, List.set_cons_zero])) | (go_wp2_with (first | (go_at_call 91; (with_reducible refine (H4.out _ (by exact blw)).mono ?_); rintro e wa ⟨rfl, hba⟩; have hac := bc hba; have haf := bf hba; have haz := hba.size; try simp only [World.size_alloc, World.size_drew] at haz) | (go_at_call 91; (with_reducible refine (H8.out _ (by exact blw)).mono ?_); rintro e wb ⟨rfl, hbb⟩; have hbc := bc hbb; have hbf := bf hbb; have hbz := hbb.size; try simp only [World.size_alloc, World.size_drew] at hbz) | (go_at_call 63; (with_reducible refine (HRE.out _).mono ?_); rintro e wq ⟨rfl, hbq⟩; have hqc := bc hbq; have hqf := bf hbq; have hqz := hbq.size; try simp only [World.size_alloc, World.size_drew] at hqz)))); refine HK_.out _ _ (kepP_ofA) ?_; clear HK_)
          (refine z_run gtA (by rfl) (by rfl) (fun K_ hK_ => ?_); have HK_ := Lib.hid hK_; clear hK_; (first | (((refine wpAppO _ _ 78 rfl V.heap.size 91 (.agg #[.int .u32 0, .int .u32 0, .slice none 0 0]) 3 32 Try.underlying78 info_sub rfl (by decide) _ k (subRV srs) rfl (owns_below HOX.out (show Below X.heap.size X _ from blw) (Nat.le_refl _)) ⟨wq.heap.size, 0, none⟩ 1 1 [.int .u32 (co : Nat), .int .u32 (fl : Nat), .slice AD (s - 12) CD] rfl rfl (has_alloc _ _ _) (fun u hu => by simp at hu; rcases hu with rfl | rfl | rfl <;> rfl) (by unfold maxLen; omega) (by omega) (by simp; omega) ?_); intro a3 c3 w5 hown3 t31 t32 t33 hb3 hg3; have hko : KeptO (fun k_ t_ => t_ = 91 ∧ True) X w5 := (KeptO.below (show Below X.heap.size X _ from blw)).trans (KeptO.grown (owns_below HOX.out (show Below X.heap.size X _ from blw) (Nat.le_refl _)) hg3 fun m hm => ⟨rfl, trivial⟩); have hbv : Below V.heap.size X w5 := ((show Below X.heap.size X _ from blw).mono hVX).trans hb3; have hw5 := (hko.2 g5 _ _ _ H5X.out (fun h_ => absurd h_.1 (by decide))).trans H5X.out; have s5 := fun o => cell_of_heap hw5 o; have sf := fun o => froz_of_heap hw5 o; have HO5 := Lib.hid hown3; have HKO := Lib.hid hko; have HBV5 := Lib.hid hbv; have HW5 := Lib.hid hw5; have hz5 := hko.1; clear hown3 t31 t32 t33 hb3 hg3 hko hbv hw5; dsimp only [Act.put]; simp only [List.setIfInBounds_toArray, List.set_cons_succ, List.set_cons_zero])) | (go_wp2_with (first | (go_at_call 91; (with_reducible refine (H4.out _ (by exact blw)).mono ?_); rintro e wa ⟨rfl, hba⟩; have hac := bc hba; have haf := bf hba; have haz := hba.size; try simp only [World.size_alloc, World.size_drew] at haz) | (go_at_call 91; (with_reducible refine (H8.out _ (by exact blw)).mono ?_); rintro e wb ⟨rfl, hbb⟩; have hbc := bc hbb; have hbf := bf hbb; have hbz := hbb.size; try simp only [World.size_alloc, World.size_drew] at hbz) | (go_at_call 63; (with_reducible refine (HRE.out _).mono ?_); rintro e wq ⟨rfl, hbq⟩; have hqc := bc hbq; have hqf := bf hbq; have hqz := hbq.size; try simp only [World.size_alloc, World.size_drew] at hqz)))); refine HK_.out _ _ (kepP_ofA) ?_; clear HK_)
          (refine z_run gtA (by rfl) (by rfl) (fun K_ hK_ => ?_); have HK_ := Lib.hid hK_; clear hK_; (first | (((refine wpAppO _ _ 78 rfl V.heap.size 91 (.agg #[.int .u32 0, .int .u32 0, .slice none 0 0]) 3 32 Try.underlying78 info_sub rfl (by decide) _ k (subRV srs) rfl (owns_below HOX.out (show Below X.heap.size X _ from blw) (Nat.le_refl _)) ⟨wq.heap.size, 0, none⟩ 1 1 [.int .u32 (co : Nat), .int .u32 (fl : Nat), .slice AD (s - 12) CD] rfl rfl (has_alloc _ _ _) (fun u hu => by simp at hu; rcases hu with rfl | rfl | rfl <;> rfl) (by unfold maxLen; omega) (by omega) (by simp; omega) ?_); intro a3 c3 w5 hown3 t31 t32 t33 hb3 hg3; have hko : KeptO (fun k_ t_ => t_ = 91 ∧ True) X w5 := (KeptO.below (show Below X.heap.size X _ from blw)).trans (KeptO.grown (owns_below HOX.out (show Below X.heap.size X _ from blw) (Nat.le_refl _)) hg3 fun m hm => ⟨rfl, trivial⟩); have hbv : Below V.heap.size X w5 := ((show Below X.heap.size X _ from blw).mono hVX).trans hb3; have hw5 := (hko.2 g5 _ _ _ H5X.out (fun h_ => absurd h_.1 (by decide))).trans H5X.out; have s5 := fun o => cell_of_heap hw5 o; have sf := fun o => froz_of_heap hw5 o; have HO5 := Lib.hid hown3; have HKO := Lib.hid hko; have HBV5 := Lib.hid hbv; have HW5 := Lib.hid hw5; have hz5 := hko.1; clear hown3 t31 t32 t33 hb3 hg3 hko hbv hw5; dsimp only [Act.put]; simp only [List.setIfInBounds_toArray, List.set_cons_succ, List.set_cons_zero])) | (go_wp2_with (first | (go_at_call 91; (with_reducible refine (H4.out _ (by exact blw)).mono ?_); rintro e wa ⟨rfl, hba⟩; have hac := bc hba; have haf := bf hba; have haz := hba.size; try simp only [World.size_alloc, World.size_drew] at haz) | (go_at_call 91; (with_reducible refine (H8.out _ (by exact blw)).mono ?_); rintro e wb ⟨rfl, hbb⟩; have hbc := bc hbb; have hbf := bf hbb; have hbz := hbb.size; try simp only [World.size_alloc, World.size_drew] at hbz) | (go_at_call 63; (with_reducible refine (HRE.out _).mono ?_); rintro e wq ⟨rfl, hbq⟩; have hqc := bc hbq; have hqf := bf hbq; have hqz := hbq.size; try simp only [World.size_alloc, World.size_drew] at hqz)))); refine HK_.out _ _ (kepP_ofA) ?_; clear HK_)
          (refine z_quiet gtA (by rfl) (by rfl) (fun K_ hK_ => ?_); go_big_quiet_op; refine hK_ _ ?_; clear hK_ K_)
          (refine z_run gtA (by rfl) (by rfl) (fun K_ hK_ => ?_); have HK_ := Lib.hid hK_; clear hK_; (first | (((refine wpAppO _ _ 78 rfl V.heap.size 91 (.agg #[.int .u32 0, .int .u32 0, .slice none 0 0]) 3 32 Try.underlying78 info_sub rfl (by decide) _ k (subRV srs) rfl (owns_below HOX.out (show Below X.heap.size X _ from blw) (Nat.le_refl _)) ⟨wq.heap.size, 0, none⟩ 1 1 [.int .u32 (co : Nat), .int .u32 (fl : Nat), .slice AD (s - 12) CD] rfl rfl (has_alloc _ _ _) (fun u hu => by simp at hu; rcases hu with rfl | rfl | rfl <;> rfl) (by unfold maxLen; omega) (by omega) (by simp; omega) ?_); intro a3 c3 w5 hown3 t31 t32 t33 hb3 hg3; have hko : KeptO (fun k_ t_ => t_ = 91 ∧ True) X w5 := (KeptO.below (show Below X.heap.size X _ from blw)).trans (KeptO.grown (owns_below HOX.out (show Below X.heap.size X _ from blw) (Nat.le_refl _)) hg3 fun m hm => ⟨rfl, trivial⟩); have hbv : Below V.heap.size X w5 := ((show Below X.heap.size X _ from blw).mono hVX).trans hb3; have hw5 := (hko.2 g5 _ _ _ H5X.out (fun h_ => absurd h_.1 (by decide))).trans H5X.out; have s5 := fun o => cell_of_heap hw5 o; have sf := fun o => froz_of_heap hw5 o; have HO5 := Lib.hid hown3; have HKO := Lib.hid hko; have HBV5 := Lib.hid hbv; have HW5 := Lib.hid hw5; have hz5 := hko.1; clear hown3 t31 t32 t33 hb3 hg3 hko hbv hw5; dsimp only [Act.put]; simp only [List.setIfInBounds_toArray, List.set_cons_succ, List.set_cons_zero])) | (go_wp2_with (first | (go_at_call 91; (with_reducible refine (H4.out _ (by exact blw)).mono ?_); rintro e wa ⟨rfl, hba⟩; have hac := bc hba; have haf := bf hba; have haz := hba.size; try simp only [World.size_alloc, World.size_drew] at haz) | (go_at_call 91; (with_reducible refine (H8.out _ (by exact blw)).mono ?_); rintro e wb ⟨rfl, hbb⟩; have hbc := bc hbb; have hbf := bf hbb; have hbz := hbb.size; try simp only [World.size_alloc, World.size_drew] at hbz) | (go_at_call 63; (with_reducible refine (HRE.out _).mono ?_); rintro e wq ⟨rfl, hbq⟩; have hqc := bc hbq; have hqf := bf hbq; have hqz := hbq.size; try simp only [World.size_alloc, World.size_drew] at hqz)))); refine HK_.out _ _ (kepP_ofA) ?_; clear HK_)
          (refine z_run gtA (by rfl) (by rfl) (fun K_ hK_ => ?_); have HK_ := Lib.hid hK_; clear hK_; (first | (((refine wpAppO _ _ 78 rfl V.heap.size 91 (.agg #[.int .u32 0, .int .u32 0, .slice none 0 0]) 3 32 Try.underlying78 info_sub rfl (by decide) _ k (subRV srs) rfl (owns_below HOX.out (show Below X.heap.size X _ from blw) (Nat.le_refl _)) ⟨wq.heap.size, 0, none⟩ 1 1 [.int .u32 (co : Nat), .int .u32 (fl : Nat), .slice AD (s - 12) CD] rfl rfl (has_alloc _ _ _) (fun u hu => by simp at hu; rcases hu with rfl | rfl | rfl <;> rfl) (by unfold maxLen; omega) (by omega) (by simp; omega) ?_); intro a3 c3 w5 hown3 t31 t32 t33 hb3 hg3; have hko : KeptO (fun k_ t_ => t_ = 91 ∧ True) X w5 := (KeptO.below (show Below X.heap.size X _ from blw)).trans (KeptO.grown (owns_below HOX.out (show Below X.heap.size X _ from blw) (Nat.le_refl _)) hg3 fun m hm => ⟨rfl, trivial⟩); have hbv : Below V.heap.size X w5 := ((show Below X.heap.size X _ from blw).mono hVX).trans hb3; have hw5 := (hko.2 g5 _ _ _ H5X.out (fun h_ => absurd h_.1 (by decide))).trans H5X.out; have s5 := fun o => cell_of_heap hw5 o; have sf := fun o => froz_of_heap hw5 o; have HO5 := Lib.hid hown3; have HKO := Lib.hid hko; have HBV5 := Lib.hid hbv; have HW5 := Lib.hid hw5; have hz5 := hko.1; clear hown3 t31 t32 t33 hb3 hg3 hko hbv hw5; dsimp only [Act.put]; simp only [List.setIfInBounds_toArray, List.set_cons_succ, List.set_cons_zero])) | (go_wp2_with (first | (go_at_call 91; (with_reducible refine (H4.out _ (by exact blw)).mono ?_); rintro e wa ⟨rfl, hba⟩; have hac := bc hba; have haf := bf hba; have haz := hba.size; try simp only [World.size_alloc, World.size_drew] at haz) | (go_at_call 91; (with_reducible refine (H8.out _ (by exact blw)).mono ?_); rintro e wb ⟨rfl, hbb⟩; have hbc := bc hbb; have hbf := bf hbb; have hbz := hbb.size; try simp only [World.size_alloc, World.size_drew] at hbz) | (go_at_call 63; (with_reducible refine (HRE.out _).mono ?_); rintro e wq ⟨rfl, hbq⟩; have hqc := bc hbq; have hqf := bf hbq; have hqz := hbq.size; try simp only [World.size_alloc, World.size_drew] at hqz)))); refine HK_.out _ _ (kepP_ofA) ?_; clear HK_)
          (refine z_quiet gtA (by rfl) (by rfl) (fun K_ hK_ => ?_); go_big_quiet_op; refine hK_ _ ?_; clear hK_ K_)
          (refine z_last gtA (by rfl) (by rfl) (by rfl) (fun K_ hK_ => ?_); have HK_ := Lib.hid hK_; clear hK_; (first | (((refine wpAppO _ _ 78 rfl V.heap.size 91 (.agg #[.int .u32 0, .int .u32 0, .slice none 0 0]) 3 32 Try.underlying78 info_sub rfl (by decide) _ k (subRV srs) rfl (owns_below HOX.out (show Below X.heap.size X _ from blw) (Nat.le_refl _)) ⟨wq.heap.size, 0, none⟩ 1 1 [.int .u32 (co : Nat), .int .u32 (fl : Nat), .slice AD (s - 12) CD] rfl rfl (has_alloc _ _ _) (fun u hu => by simp at hu; rcases hu with rfl | rfl | rfl <;> rfl) (by unfold maxLen; omega) (by omega) (by simp; omega) ?_); intro a3 c3 w5 hown3 t31 t32 t33 hb3 hg3; have hko : KeptO (fun k_ t_ => t_ = 91 ∧ True) X w5 := (KeptO.below (show Below X.heap.size X _ from blw)).trans (KeptO.grown (owns_below HOX.out (show Below X.heap.size X _ from blw) (Nat.le_refl _)) hg3 fun m hm => ⟨rfl, trivial⟩); have hbv : Below V.heap.size X w5 := ((show Below X.heap.size X _ from blw).mono hVX).trans hb3; have hw5 := (hko.2 g5 _ _ _ H5X.out (fun h_ => absurd h_.1 (by decide))).trans H5X.out; have s5 := fun o => cell_of_heap hw5 o; have sf := fun o => froz_of_heap hw5 o; have HO5 := Lib.hid hown3; have HKO := Lib.hid hko; have HBV5 := Lib.hid hbv; have HW5 := Lib.hid hw5; have hz5 := hko.1; clear hown3 t31 t32 t33 hb3 hg3 hko hbv hw5; dsimp only [Act.put]; simp only [List.setIfInBounds_toArray, List.set_cons_succ, List.set_cons_zero])) | (go_wp2_with (first | (go_at_call 91; (with_reducible refine (H4.out _ (by exact blw)).mono ?_); rintro e wa ⟨rfl, hba⟩; have hac := bc hba; have haf := bf hba; have haz := hba.size; try simp only [World.size_alloc, World.size_drew] at haz) | (go_at_call 91; (with_reducible refine (H8.out _ (by exact blw)).mono ?_); rintro e wb ⟨rfl, hbb⟩; have hbc := bc hbb; have hbf := bf hbb; have hbz := hbb.size; try simp only [World.size_alloc, World.size_drew] at hbz) | (go_at_call 63; (with_reducible refine (HRE.out _).mono ?_); rintro e wq ⟨rfl, hbq⟩; have hqc := bc hbq; have hqf := bf hbq; have hqz := hbq.size; try simp only [World.size_alloc, World.size_drew] at hqz)))); refine HK_.out _ _ ?_; clear HK_)
          refine z_nil ?_
          clear hK0_ hK1_
          have hg5V : V.heap.size ≤ g5 := hgV
          have hL5 : L ≤ g5 := by omega
          clear s5 sf x5 x8
          go_wp2_with fail
          go_roundw
          case rel =>
            have hno8 : ∀ k : Nat, ¬ (fun (k_ t_ : Nat) => t_ = 91 ∧ True) k 5 := fun k h_ => absurd h_.1 (by decide)
            have hbL : Below L X w5 := HBV5.out.mono hLV
            have h7N := (set_heap_other (o := 2) (.slice a3 (k + 1) c3) (fun e => h57 e.symm)).trans ((HKO.out.2 g7 _ _ _ H7X.out (fun h_ => absurd h_.1 (by decide))).trans H7X.out)
            have hD2 := (HDX.out.adv cR s (by rw [HLD.out]; exact hcap)).keptO hbL HKO.out hno8
            rw [HDD.out, ← HA2.out] at hD2
            refine ⟨k + 1, srs ++ [⟨co, fl, AD, s - 12, CD, (cb.drop (p + 12)).take (s - 12)⟩], a3, c3, AR2, CR2, hlt, by go_num, by rw [List.length_append, hsl]; rfl, HFS.out, ?_, ?_, set_heap_at _ HW5.out, ?_, ?_, ?_, ?_, ?_, ?_, ?_⟩
            · rw [List.map_append, HDS.out, HSDK.out, HSB2.out]
              rfl
            · intro x hx
              rcases List.mem_append.1 hx with hx | hx
              · exact ((HEX.out x hx).keptO hbL HKO.out hno8).set HW5.out (by decide) hL5 2 _
              · simp only [List.mem_singleton] at hx
                subst hx
                refine ⟨(HBD.out.keptO hbL HKO.out hno8).set HW5.out (by decide) hL5 2 _, ?_, ?_, ?_⟩
                · show ((cb.drop (p + 12)).take (s - 12)).length = s - 12
                  rw [List.length_take, List.length_drop, HL.out]
                  omega
                · show s - 12 ≤ CD
                  rw [HCD.out]
                  omega
                · show CD ≤ maxLen
                  rw [HCD.out]
                  exact Nat.le_trans (Nat.sub_le _ _) hmax
            · rw [subRV_snoc]
              exact set_owns _ HO5.out (own_neE HO5.out HW5.out (by decide))
            · rw [HPS.out, show n - (p + s) = NR2 from by rw [HN2.out]; omega]
              exact h7N
            · rw [HPS.out]
              exact hD2.set HW5.out (by decide) hL5 2 _
            · rw [HPS.out, HC2.out]
              omega
            · rw [HC2.out]
              exact Nat.le_trans (Nat.sub_le _ _) hmax
            · exact (HRX.out.keptO HKO.out (fun k h_ => absurd h_.1 (by decide))).set HW5.out (by decide) 2 _
            · exact (HBX.out.trans HBV5.out).setCell (p := ⟨g5, 2, none⟩) hg5V _
          case measure => simp [Go.RowKit.intOf]; omega
        · obtain rfl : M = k := by omega
          have dk : decide ((M : Int) < (M : Int)) = false := by simp
          have HOK := Lib.hid (HCH.out HFIT.out)
          have z2 := (HBV.out.block _ l2).trans Z2.out
          have ZZ2 := Lib.hid z2
          have q2 := fun o => cell_of_heap z2 o
          have f2 := fun o => froz_of_heap z2 o
          have l2r := (Array.getElem?_eq_some_iff.1 z2).1
          have q5 := fun o => cell_of_heap H5R.out o
          have hsc := owns_slice HO.out
          clear hlt hk z2
          go_wp2_with fail
          have y0 := set_heap_at (o := 0) (.int .u32 (F0 : Nat)) ZZ2.out
          have y1 := set_heap_at (o := 1) (.slice (some ⟨gh, 0, none⟩) N N) y0
          have y2 := set_heap_at (o := 2) (.slice aS M cS) y1
          simp only [List.setIfInBounds_toArray, List.set_cons_succ, List.set_cons_zero] at y2
          have qq := fun o => cell_of_heap y2 o
          refine bodyPost_ret (v := .agg #[.int .u32 (F0 : Nat), .slice (some ⟨gh, 0, none⟩) N N, .slice aS M cS]) (by simp [results, Try.results66, go_sem, qq]) rfl ?_
          have hL2 : L ≤ w.heap.size + 1 := by omega
          have hcaps : M ≤ cS ∧ cS ≤ maxLen := by
            obtain ⟨a', c', he, k1, k2, _⟩ := hsc
            injection he with _ _ h3
            subst h3
            exact ⟨k1, k2⟩
          refine ⟨.inl ⟨⟨F0, some ⟨gh, 0, none⟩, N, aS, cS, rulesD cb N, srs⟩, HOK.out, ?_, ?_, ?_⟩, ?_⟩
          · rw [HD.out, ← HDS.out]
            rfl
          · unfold ChR.enc
            dsimp only
            rw [HRL.out N, hsl]
          · refine ((ChR.Is.set ?_ ZZ2.out (by decide) (by decide) (by decide) hL2 0 _).set y0 (by decide) (by decide) (by decide) hL2 1 _).set y1 (by decide) (by decide) (by decide) hL2 2 _
            exact ⟨HRR.out, hasT_of_owns HO.out, HER.out, by show (rulesD cb N).length ≤ N; rw [HRL.out N]; exact Nat.le_refl _, by show N ≤ maxLen; unfold maxLen; omega, by show srs.length ≤ cS; rw [hsl]; exact hcaps.1, hcaps.2⟩
          · have hw1 : w.heap.size ≤ w.heap.size + 1 := Nat.le_succ _
            exact ((HBW.out.setCell (p := ⟨w.heap.size + 1, 0, none⟩) hw1 _).setCell (p := ⟨w.heap.size + 1, 1, none⟩) hw1 _).setCell (p := ⟨w.heap.size + 1, 2, none⟩) hw1 _
end Go.Proofs.Ythehcbbdkiomnaa
end
