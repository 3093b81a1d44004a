
/- The document's Read of layer 8, of bytes whose rows and settings are there. Conditions: as FRefOk says. -/
import Derived.Test.YtfnghinefbmlmaaPickY
import Derived.Test.YtfnghinefbmlmaaFeatC
import Derived.Test.YtfnghinefbmlmaaRef1
import Derived.Test.YtfnghinefbmlmaaRef2
namespace Go.Proofs.Ytfnghinefbmlmaa
open Go.RowKit Go.Lib

structure FRefOk (bs : List UInt8) (N : Nat) : Prop where
  len : 12 ≤ bs.length
  big : bs.length ≤ 100000
  ver : num bs 0 4 = 65536
  n : num bs 4 2 = N
  few : N ≤ 30
  rows : N * 12 ≤ bs.length - 12
  sets : ∀ i, i < N → setsOk bs i
  many : ∀ i, i < N → fMany bs i ≤ 60
def RiseT (bs : List UInt8) (k : Nat) : Prop := ∀ i, i + 1 < k → fTy bs i < fTy bs (i + 1)
theorem riseT_next {bs : List UInt8} {k : Nat} : RiseT bs (k + 2) ↔ RiseT bs (k + 1) ∧ fTy bs k < fTy bs (k + 1) := by
  constructor
  · exact fun h => ⟨fun i hi => h i (by omega), h k (by omega)⟩
  · rintro ⟨h, hlt⟩ i hi
    rcases Nat.lt_or_ge (i + 1) (k + 1) with g | g
    · exact h i g
    · obtain rfl : i = k := by omega
      exact hlt
/-- Features that say of types what the bytes say. -/
def TyEx (bs : List UInt8) (fs : List FEnt) : Prop := ∀ k f, fs[k]? = some f → f.ty = fTy bs k ∧ f.ex = bt (fFl bs k) 15
theorem tyEx_snoc {bs : List UInt8} {fs : List FEnt} {f : FEnt} (h : TyEx bs fs) (h1 : f.ty = fTy bs fs.length) (h2 : f.ex = bt (fFl bs fs.length) 15) : TyEx bs (fs ++ [f]) := fun k g hg => by
  rcases Nat.lt_trichotomy k fs.length with hl | hl | hl
  · rw [List.getElem?_append_left hl] at hg; exact h k g hg
  · subst hl
    rw [List.getElem?_append_right (Nat.le_refl _), Nat.sub_self] at hg
    simp at hg
    subst hg
    exact ⟨h1, h2⟩
  · rw [List.getElem?_eq_none (by simp; omega)] at hg; cases hg
theorem bt15n (k : Nat) (h : k ≤ 65535) : bt k 15 = decide (32768 ≤ k) := by
  unfold bt
  by_cases g : 32768 ≤ k
  · simp only [g, decide_true, decide_eq_true_eq]; omega
  · simp only [g, decide_false, decide_eq_false_iff_not]; omega
theorem bt15' (k : Nat) (h : k ≤ 65535) : decide (32768 ≤ (k : Int)) = bt k 15 := by
  rw [bt15n k h]
  by_cases g : 32768 ≤ k
  · simp [g]; omega
  · simp [g]; omega
theorem num2_max (bs : List UInt8) (k : Nat) : num bs k 2 ≤ 65535 := by have := num_lt bs k 2; omega
def intsV (zs : List Int) : List Value := zs.map (Value.int .i64)
theorem intsV_app (a b : List Int) : intsV (a ++ b) = intsV a ++ intsV b := by simp [intsV]
theorem ints_info : (Try.prog.info? 3).map (fun i => (i.zero, i.size, i.bytes)) = some (some (.int .i64 0), 1, 8) := by kernel_rfl
set_option maxRecDepth 100000 in
set_option maxHeartbeats 8000000 in
theorem refF_any (a : Option Addr) (n c : Nat) (bs : List UInt8) (N : Nat) (w : World) (h : Has w a (bytesV bs)) (hl : bs.length = n) (hok : FRefOk bs N) :
    Calls Try.prog 25 #[.slice a n c] w fun e w' => ((RiseT bs N ∧ ∃ (a' : Option Addr) (c' : Nat) (fs : List FEnt), e = .returned (.tuple #[.slice a' N c', .bool true]) ∧ Has w' a' (fents fs) ∧ fs.length = N ∧ TyEx bs fs) ∨ (¬ RiseT bs N ∧ e = .returned (.tuple #[.slice none 0 0, .bool false]))) ∧ Below w.heap.size w w' := by
  have hAC := allocC
  have hAF := allocF
  have hN := hok.few
  have hl1 := hok.len
  have hl2 := hok.big
  have hrw := hok.rows
  rw [hl] at hl1 hl2 hrw
  have HH := Lib.hid h
  have HL := Lib.hid hl
  have hU : ∀ (m : Nat) (z : Int) (k : Nat), z = (k : Nat) → k + m ≤ n → m ≤ 4 → ∀ W, Below w.heap.size w W → Calls Try.prog 39 #[.slice a n c, .int .i64 z, .int .i64 (m : Nat)] W fun e w' => e = .returned (.int .i64 (num bs k m : Nat)) ∧ W = w' := by
    intro m z k hz hk hm W hW
    rw [hz]
    exact u_in a n c k m bs W (h.below hW) hl hk hm (by unfold maxLen; omega)
  have hR : ∀ (z : Int) (F M s : Nat) W, z = (n : Nat) → F ≤ n → M * s ≤ n - F → 0 < s ∧ s ≤ 12 → M ≤ 65535 → Calls Try.prog 40 #[.int .i64 z, .int .i64 (F : Nat), .int .i64 (M : Nat), .int .i64 (s : Nat)] W fun e w' => e = .returned (.bool true) ∧ W = w' := by
    intro z F M s W hz h1 h2 hs hM
    rw [hz]
    refine rref_any n (F : Nat) (M : Nat) (s : Nat) true ?_ W (by unfold maxLen; omega) (by omega) (by omega) (by omega)
    simp only [fitK, true_iff]
    refine ⟨by omega, by omega, by omega, by omega, .inr ?_⟩
    simp only [Int.toNat_natCast]
    exact (Nat.le_div_iff_mul_le hs.1).2 h2
  have hU4 : ∀ (z : Int) (k : Nat), z = (k : Nat) → k + 4 ≤ n → ∀ W, Below w.heap.size w W → Calls Try.prog 39 #[.slice a n c, .int .i64 z, .int .i64 4] W fun e w' => e = .returned (.int .i64 (num bs k 4 : Nat)) ∧ W = w' := fun z k hz hk W hW => hU 4 z k hz hk (by omega) W hW
  have hU2 : ∀ (z : Int) (k : Nat), z = (k : Nat) → k + 2 ≤ n → ∀ W, Below w.heap.size w W → Calls Try.prog 39 #[.slice a n c, .int .i64 z, .int .i64 2] W fun e w' => e = .returned (.int .i64 (num bs k 2 : Nat)) ∧ W = w' := fun z k hz hk W hW => hU 2 z k hz hk (by omega) W hW
  have hR12 : ∀ (z : Int) W, z = (n : Nat) → Calls Try.prog 40 #[.int .i64 z, .int .i64 12, .int .i64 (N : Nat), .int .i64 12] W fun e w' => e = .returned (.bool true) ∧ W = w' := fun z W hz => hR z 12 N 12 W hz (by omega) hrw (by omega) (by omega)
  have hR4 : ∀ (z : Int) (F M : Nat) W, z = (n : Nat) → F ≤ n → M * 4 ≤ n - F → M ≤ 65535 → Calls Try.prog 40 #[.int .i64 z, .int .i64 (F : Nat), .int .i64 (M : Nat), .int .i64 4] W fun e w' => e = .returned (.bool true) ∧ W = w' := fun z F M W hz h1 h2 hM => hR z F M 4 W hz h1 h2 (by omega) hM
  have HUN := Lib.hid (show ∀ W, Below w.heap.size w W → Calls Try.prog 39 #[.slice a n c, .int .i64 4, .int .i64 2] W fun e w' => e = .returned (.int .i64 (N : Nat)) ∧ W = w' from fun W hW => by
    have := hU2 4 4 rfl (by omega) W hW
    rwa [hok.n] at this)
  have HUV := Lib.hid (show ∀ W, Below w.heap.size w W → Calls Try.prog 39 #[.slice a n c, .int .i64 0, .int .i64 4] W fun e w' => e = .returned (.int .i64 65536) ∧ W = w' from fun W hW => by
    have := hU4 0 0 rfl (by omega) W hW
    rwa [hok.ver] at this)
  have HU4 := Lib.hid hU4
  have HU2 := Lib.hid hU2
  have HR12 := Lib.hid hR12
  have HR4 := Lib.hid hR4
  clear hU4 hU2 hR12 hR4
  clear hU hR
  have HOK := Lib.hid hok
  clear h hl hok
  go_enter Try.func25, Try.ntmps25
  go_wp2_with (first
    | (go_at_call 39; (with_reducible refine (HUN.out _ (by exact blw)).mono ?_); rintro e w_ ⟨rfl, rfl⟩)
    | (go_at_call 39; (with_reducible refine (HUV.out _ (by exact blw)).mono ?_); rintro e w_ ⟨rfl, rfl⟩)
    | (go_at_call 40; (with_reducible refine (HR12.out _ _ (by rfl)).mono ?_); rintro e w_ ⟨rfl, rfl⟩))
  go_loopw [4, 6] (fun o i wr => ∃ (k : Nat) (a' : Option Addr) (c' : Nat) (fs : List FEnt), k ≤ N ∧ i = .int .i64 (k : Nat) ∧ o = .slice a' k c' ∧ wr.ownsRow w.heap.size 74 4 (.slice a' k c') k (fents fs) ∧ fs.length = k ∧ TyEx bs fs ∧ RiseT bs k ∧ Below w.heap.size w wr) (fun _ i _ => N - (intOf i).toNat)
  case atStart => exact ⟨0, some ⟨w.heap.size, 0, none⟩, 0, [], Nat.zero_le _, rfl, rfl, World.ownsRow_lit w #[] 0 (Nat.le_refl _) (by decide) rfl, rfl, fun k f h => by simp at h, fun i hi => by omega, balloc (brefl _) _⟩
  case round =>
    obtain ⟨k, a', c', fs, hk, rfl, rfl, hown, hfl, hty, hri, hb⟩ := hrel
    have HB := Lib.hid hb
    have HO := Lib.hid hown
    have HFL := Lib.hid hfl
    have HTY := Lib.hid hty
    have HRI := Lib.hid hri
    have hzr := hb.size
    clear hown hfl hty hri
    by_cases hlt : k < N
    · have hset := HOK.out.sets k hlt
      have hmany := HOK.out.many k hlt
      unfold setsOk at hset
      rw [HL.out] at hset
      obtain ⟨hs1, hs2⟩ := hset
      have HUM := Lib.hid (fun z hz W hW => HU2.out z (14 + 12 * k) hz (by omega) W hW)
      have HUF := Lib.hid (fun z hz W hW => HU4.out z (16 + 12 * k) hz (by omega) W hW)
      have HUG := Lib.hid (fun z hz W hW => HU2.out z (20 + 12 * k) hz (by omega) W hW)
      have HUT := Lib.hid (fun z hz W hW => HU2.out z (12 + 12 * k) hz (by omega) W hW)
      have HTD := Lib.hid (show fTy bs k = num bs (12 + 12 * k) 2 from rfl)
      have HGD := Lib.hid (show fFl bs k = num bs (20 + 12 * k) 2 from rfl)
      have hb1 := num2_max bs (14 + 12 * k)
      have hb2 := num2_max bs (20 + 12 * k)
      have hb3 := num2_max bs (12 + 12 * k)
      have dL := bt15' (num bs (20 + 12 * k) 2) hb2
      unfold fMany at hmany hs2
      unfold fFrom at hs1 hs2
      generalize num bs (14 + 12 * k) 2 = M at *
      generalize num bs (16 + 12 * k) 4 = F at *
      generalize num bs (20 + 12 * k) 2 = L at *
      generalize num bs (12 + 12 * k) 2 = T at *
      have HDX := Lib.hid (show bt (fFl bs k) 15 = bt L 15 from by rw [HGD.out])
      generalize bt L 15 = x at *
      clear HGD
      go_wp2_with (first
        | (go_at_call 39; (with_reducible refine (HUM.out _ (by omega) _ (by exact blw)).mono ?_); rintro e w_ ⟨rfl, rfl⟩)
        | (go_at_call 39; (with_reducible refine (HUF.out _ (by omega) _ (by exact blw)).mono ?_); rintro e w_ ⟨rfl, rfl⟩)
        | (go_at_call 39; (with_reducible refine (HUG.out _ (by omega) _ (by exact blw)).mono ?_); rintro e w_ ⟨rfl, rfl⟩)
        | (go_at_call 39; (with_reducible refine (HUT.out _ (by omega) _ (by exact blw)).mono ?_); rintro e w_ ⟨rfl, rfl⟩))
      obtain ⟨U, hU⟩ : ∃ U, U = wr.alloc (Obj.cells #[.int .i64 (T : Nat), .bool x, .int .i64 (-1), .slice none 0 0] 74) := ⟨_, rfl⟩
      have HBU := Lib.hid (show Below wr.heap.size wr U from by rw [hU]; exact balloc (brefl _) _)
      have h11 : U.heap[wr.heap.size]? = some (.cells #[.int .i64 (T : Nat), .bool x, .int .i64 (-1), .slice none 0 0] 74 (0, 0)) := by rw [hU, heap_push, if_pos rfl]
      rw [← hU]
      have H11 := Lib.hid h11
      have HOU := Lib.hid (owns_below HO.out HBU.out (Nat.le_refl _))
      have hzU : wr.heap.size < U.heap.size := (Array.getElem?_eq_some_iff.1 h11).1
      have q11 := fun o => cell_of_heap h11 o
      have HNIL := Lib.hid (show U.ownsRow wr.heap.size 3 1 (.slice none 0 0) 0 (intsV []) from ⟨rfl, .inl ⟨rfl, rfl⟩⟩)
      have HRR := Lib.hid (fun W => HR4.out (n : Int) F M W rfl hs1 (by omega) hb1)
      obtain ⟨g11, hg11⟩ : ∃ g11, g11 = wr.heap.size := ⟨_, rfl⟩
      rw [← hg11] at H11 q11 HNIL hzU ⊢
      have HG := Lib.hid hg11
      clear hU h11 HUM HUF HUG HUT hg11
      by_cases hk0 : ¬ 0 < k
      · have d0 : decide (0 < (k : Int)) = false := by simp; omega
        have d0' : decide (0 < k) = false := by simp; omega
        have HRN := Lib.hid (show RiseT bs (k + 1) from fun i hi => by omega)
        clear hk0
        refine wp_region_tree (.step 0 (.step 1 (.step 2 (.step 3 (.step 4 (.step 5 (.step 6 (.step 7 (.step 8 (.step 9 (.step 10 (.step 11 (.step 12 (.step 13 (.step 14 (.step 15 (.step 16 (.step 17 (.step 18 (.step 19 (.step 20 .nil))))))))))))))))))))) (by kernel_rfl) (by kernel_rfl) (by kernel_rfl) (by kernel_rfl) (by intro _ _ d_ _ _ h_; cases d_ <;> first | exact h_ | (dsimp +zetaDelta only at h_ ⊢; exact h_)) (fun w' => ∃ p : Wld U [], w' = p.val) (wld_start _ _) ?_
        have hG_ := @wldC U
        (refine tree_quiet (by simp only [List.getElem?_toArray, List.getElem?_cons_succ, List.getElem?_cons_zero]; rfl) (by rfl) (by rfl) (fun K_ hK_ => ?_); go_big_quiet_op; refine hK_ _ ?_; clear hK_ K_)
        (refine tree_quiet (by simp only [List.getElem?_toArray, List.getElem?_cons_succ, List.getElem?_cons_zero]; rfl) (by rfl) (by rfl) (fun K_ hK_ => ?_); go_big_quiet_op; refine hK_ _ ?_; clear hK_ K_)
        (refine tree_quiet (by simp only [List.getElem?_toArray, List.getElem?_cons_succ, List.getElem?_cons_zero]; rfl) (by rfl) (by rfl) (fun K_ hK_ => ?_); go_big_quiet_op; refine hK_ _ ?_; clear hK_ K_)
        (refine tree_quiet (by simp only [List.getElem?_toArray, List.getElem?_cons_succ, List.getElem?_cons_zero]; rfl) (by rfl) (by rfl) (fun K_ hK_ => ?_); go_big_quiet_op; refine hK_ _ ?_; clear hK_ K_)
        (refine tree_run (by simp only [List.getElem?_toArray, List.getElem?_cons_succ, List.getElem?_cons_zero]; rfl) (by rfl) (by rfl) (fun K_ hK_ => ?_); have HK_ := Lib.hid hK_; clear hK_; go_wp2_with ((go_at_call 40; (with_reducible refine (HRR.out _).mono ?_); rintro e w_ ⟨rfl, rfl⟩)); refine HK_.out _ _ (wld_ofA) ?_; clear HK_)
        (refine tree_quiet (by simp only [List.getElem?_toArray, List.getElem?_cons_succ, List.getElem?_cons_zero]; rfl) (by rfl) (by rfl) (fun K_ hK_ => ?_); go_big_quiet_op; refine hK_ _ ?_; clear hK_ K_)
        (refine tree_quiet (by simp only [List.getElem?_toArray, List.getElem?_cons_succ, List.getElem?_cons_zero]; rfl) (by rfl) (by rfl) (fun K_ hK_ => ?_); go_big_quiet_op; refine hK_ _ ?_; clear hK_ K_)
        (refine tree_quiet (by simp only [List.getElem?_toArray, List.getElem?_cons_succ, List.getElem?_cons_zero]; rfl) (by rfl) (by rfl) (fun K_ hK_ => ?_); go_big_quiet_op; refine hK_ _ ?_; clear hK_ K_)
        (refine tree_quiet (by simp only [List.getElem?_toArray, List.getElem?_cons_succ, List.getElem?_cons_zero]; rfl) (by rfl) (by rfl) (fun K_ hK_ => ?_); go_big_quiet_op; refine hK_ _ ?_; clear hK_ K_)
        (refine tree_quiet (by simp only [List.getElem?_toArray, List.getElem?_cons_succ, List.getElem?_cons_zero]; rfl) (by rfl) (by rfl) (fun K_ hK_ => ?_); go_big_quiet_op; refine hK_ _ ?_; clear hK_ K_)
        refine tree_skip (by simp only [List.getElem?_toArray, List.getElem?_cons_succ, List.getElem?_cons_zero]; rfl) (by rfl) ?_; dsimp only [Act.put]; simp only [List.setIfInBounds_toArray, List.set_cons_succ, List.set_cons_zero]
        refine tree_skip (by simp only [List.getElem?_toArray, List.getElem?_cons_succ, List.getElem?_cons_zero]; rfl) (by rfl) ?_; dsimp only [Act.put]; simp only [List.setIfInBounds_toArray, List.set_cons_succ, List.set_cons_zero]
        refine tree_skip (by simp only [List.getElem?_toArray, List.getElem?_cons_succ, List.getElem?_cons_zero]; rfl) (by rfl) ?_; dsimp only [Act.put]; simp only [List.setIfInBounds_toArray, List.set_cons_succ, List.set_cons_zero]
        refine tree_skip (by simp only [List.getElem?_toArray, List.getElem?_cons_succ, List.getElem?_cons_zero]; rfl) (by rfl) ?_; dsimp only [Act.put]; simp only [List.setIfInBounds_toArray, List.set_cons_succ, List.set_cons_zero]
        refine tree_skip (by simp only [List.getElem?_toArray, List.getElem?_cons_succ, List.getElem?_cons_zero]; rfl) (by rfl) ?_; dsimp only [Act.put]; simp only [List.setIfInBounds_toArray, List.set_cons_succ, List.set_cons_zero]
        refine tree_skip (by simp only [List.getElem?_toArray, List.getElem?_cons_succ, List.getElem?_cons_zero]; rfl) (by rfl) ?_; dsimp only [Act.put]; simp only [List.setIfInBounds_toArray, List.set_cons_succ, List.set_cons_zero]
        refine tree_skip (by simp only [List.getElem?_toArray, List.getElem?_cons_succ, List.getElem?_cons_zero]; rfl) (by rfl) ?_; dsimp only [Act.put]; simp only [List.setIfInBounds_toArray, List.set_cons_succ, List.set_cons_zero]
        refine tree_skip (by simp only [List.getElem?_toArray, List.getElem?_cons_succ, List.getElem?_cons_zero]; rfl) (by rfl) ?_; dsimp only [Act.put]; simp only [List.setIfInBounds_toArray, List.set_cons_succ, List.set_cons_zero]
        refine tree_skip (by simp only [List.getElem?_toArray, List.getElem?_cons_succ, List.getElem?_cons_zero]; rfl) (by rfl) ?_; dsimp only [Act.put]; simp only [List.setIfInBounds_toArray, List.set_cons_succ, List.set_cons_zero]
        (refine tree_quiet (by simp only [List.getElem?_toArray, List.getElem?_cons_succ, List.getElem?_cons_zero]; rfl) (by rfl) (by rfl) (fun K_ hK_ => ?_); go_big_quiet_op; refine hK_ _ ?_; clear hK_ K_)
        (refine tree_quiet (by simp only [List.getElem?_toArray, List.getElem?_cons_succ, List.getElem?_cons_zero]; rfl) (by rfl) (by rfl) (fun K_ hK_ => ?_); go_big_quiet_op; refine hK_ _ ?_; clear hK_ K_)
        refine tree_nil ?_
        clear hG_
        clear d0 d0'
        clear q11 hb
        obtain ⟨Y, hY⟩ : ∃ Y, Y = U.drew := ⟨_, rfl⟩
        have HYB := Lib.hid (show Below wr.heap.size wr Y from by rw [hY]; exact bdrew1 HBU.out)
        have H11Y := Lib.hid (show Y.heap[g11]? = some (.cells #[.int .i64 (T : Nat), .bool x, .int .i64 (-1), .slice none 0 0] 74 (0, 0)) from by rw [hY]; exact H11.out)
        have HNY := Lib.hid (show Y.ownsRow g11 3 1 (.slice none 0 0) 0 (intsV []) from ⟨rfl, .inl ⟨rfl, rfl⟩⟩)
        have hzY : g11 < Y.heap.size := (Array.getElem?_eq_some_iff.1 H11Y.out).1
        rw [← hY]
        clear hY H11 HOU HNIL HBU hzU
        go_wp2_with fail
        go_loopw [12] (fun j wv => ∃ (q : Nat) (aS : Option Addr) (cS : Nat) (zs : List Int), q ≤ M ∧ j = .int .i64 (q : Nat) ∧ wv.heap[g11]? = some (.cells #[.int .i64 (T : Nat), .bool x, .int .i64 (-1), .slice aS q cS] 74 (0, 0)) ∧ wv.ownsRow g11 3 1 (.slice aS q cS) q (intsV zs) ∧ zs.length = q ∧ Below wr.heap.size wr wv) (fun j _ => M - (intOf j).toNat)
        case atStart => exact ⟨0, none, 0, [], Nat.zero_le _, rfl, H11Y.out, HNY.out, rfl, HYB.out⟩
        case round =>
          rename World => wv
          obtain ⟨q, aS, cS, zs, hq, rfl, h11, hz, hzl, hbv⟩ := hrel
          have q11 := fun o => cell_of_heap h11 o
          have f11 := fun o => froz_of_heap h11 o
          have l11 := (Array.getElem?_eq_some_iff.1 h11).1
          have H11V := Lib.hid h11
          have HZ := Lib.hid hz
          have HZL := Lib.hid hzl
          have HBV := Lib.hid hbv
          have HBW := Lib.hid (HB.out.trans (hbv.mono hzr))
          clear hz hzl hbv
          by_cases hltq : q < M
          · have HUS := Lib.hid (fun z hz W hW => HU2.out z (F + 4 * q) hz (by omega) W hW)
            generalize num bs (F + 4 * q) 2 = S at *
            go_wp2_with fail
            refine wp_region_last (.step 0 (.step 1 (.step 2 (.step 3 (.step 4 (.step 5 (.step 6 (.step 7 (.step 8 (.step 9 (.step 10 (.step 11 .nil)))))))))))) 11 (by kernel_rfl) (by kernel_rfl) (by kernel_rfl) (by kernel_rfl) (by kernel_rfl) (by intro _ _ d_ _ _ h_; cases d_ <;> first | exact h_ | (dsimp +zetaDelta only at h_ ⊢; exact h_)) (fun w' => ∃ p : KepE 3 wv, w' = p.val) (kepE_start _ _) ?_
            have hK0_ := fun (p : KepE 3 wv) (o : Nat) => p.is.cell h11 (by decide) o
            (refine z_quiet (by simp only [List.getElem?_toArray, List.getElem?_cons_succ, List.getElem?_cons_zero]; rfl) (by rfl) (by rfl) (fun K_ hK_ => ?_); go_big_quiet_op; refine hK_ _ ?_; clear hK_ K_)
            (refine z_quiet (by simp only [List.getElem?_toArray, List.getElem?_cons_succ, List.getElem?_cons_zero]; rfl) (by rfl) (by rfl) (fun K_ hK_ => ?_); go_big_quiet_op; refine hK_ _ ?_; clear hK_ K_)
            (refine z_quiet (by simp only [List.getElem?_toArray, List.getElem?_cons_succ, List.getElem?_cons_zero]; rfl) (by rfl) (by rfl) (fun K_ hK_ => ?_); go_big_quiet_op; refine hK_ _ ?_; clear hK_ K_)
            (refine z_quiet (by simp only [List.getElem?_toArray, List.getElem?_cons_succ, List.getElem?_cons_zero]; rfl) (by rfl) (by rfl) (fun K_ hK_ => ?_); go_big_quiet_op; refine hK_ _ ?_; clear hK_ K_)
            (refine z_quiet (by simp only [List.getElem?_toArray, List.getElem?_cons_succ, List.getElem?_cons_zero]; rfl) (by rfl) (by rfl) (fun K_ hK_ => ?_); go_big_quiet_op; refine hK_ _ ?_; clear hK_ K_)
            (refine z_quiet (by simp only [List.getElem?_toArray, List.getElem?_cons_succ, List.getElem?_cons_zero]; rfl) (by rfl) (by rfl) (fun K_ hK_ => ?_); go_big_quiet_op; refine hK_ _ ?_; clear hK_ K_)
            (refine z_quiet (by simp only [List.getElem?_toArray, List.getElem?_cons_succ, List.getElem?_cons_zero]; rfl) (by rfl) (by rfl) (fun K_ hK_ => ?_); go_big_quiet_op; refine hK_ _ ?_; clear hK_ K_)
            (refine z_run (by simp only [List.getElem?_toArray, List.getElem?_cons_succ, List.getElem?_cons_zero]; rfl) (by rfl) (by rfl) (fun K_ hK_ => ?_); have HK_ := Lib.hid hK_; clear hK_; (first | ((refine wpAppO _ _ 34 rfl g11 3 (.int .i64 0) 1 8 Try.underlying34 ints_info rfl (by decide) _ q (intsV zs) rfl (owns_below HZ.out (balloc (bdrew1 (brefl wv)) _) (Nat.le_refl _)) ⟨wv.heap.size, 0, none⟩ 1 1 (intsV [(S : Int)]) rfl rfl (has_alloc _ _ _) (fun u hu => by simp [intsV] at hu; subst hu; rfl) (by unfold maxLen; omega) (by omega) (by simp; omega) ?_; intro a9 c9 w9 hown9 k91 k92 k93 hb9 hg9; have hk9 := KeptE.grown (owns_below HZ.out (balloc (bdrew1 (brefl wv)) _) (Nat.le_refl _)) hg9; have hkw : KeptE 3 wv w9 := ((KeptE.below (bdrew1 (brefl wv))).trans (KeptE.below (balloc (brefl _) _))).trans hk9; have h119 := (hkw.2 g11 _ _ _ h11 (by decide)).trans h11; have q9 := fun o => cell_of_heap h119 o; have f9 := fun o => froz_of_heap h119 o; have l9 := (Array.getElem?_eq_some_iff.1 h119).1; have HO9 := Lib.hid hown9; have HB9 := Lib.hid ((((Below.refl g11 wv).drew).alloc (by simp; omega) _).trans hb9); clear hown9 k91 k92 k93 hb9 hg9; (try dsimp only [Act.put]); (try simp only [List.setIfInBounds_toArray, List.set_cons_succ, List.set_cons_zero]))) | (go_wp2_with ((go_at_call 39; (with_reducible refine (HUS.out _ (by omega) _ (bdrew1 HBW.out)).mono ?_); rintro e w_ ⟨rfl, rfl⟩)))); refine HK_.out _ _ (kepE_of (by repeat (first | exact KeptE.refl _ _ | assumption | refine KeptE.trans ?_ (KeptE.below (bdrew1 (brefl _))) | refine KeptE.trans ?_ (KeptE.below (balloc (brefl _) _)) | refine KeptE.trans ?_ (KeptE.below (by assumption)) | refine KeptE.trans ?_ (by assumption)))) ?_; clear HK_)
            (refine z_run (by simp only [List.getElem?_toArray, List.getElem?_cons_succ, List.getElem?_cons_zero]; rfl) (by rfl) (by rfl) (fun K_ hK_ => ?_); have HK_ := Lib.hid hK_; clear hK_; (first | ((refine wpAppO _ _ 34 rfl g11 3 (.int .i64 0) 1 8 Try.underlying34 ints_info rfl (by decide) _ q (intsV zs) rfl (owns_below HZ.out (balloc (bdrew1 (brefl wv)) _) (Nat.le_refl _)) ⟨wv.heap.size, 0, none⟩ 1 1 (intsV [(S : Int)]) rfl rfl (has_alloc _ _ _) (fun u hu => by simp [intsV] at hu; subst hu; rfl) (by unfold maxLen; omega) (by omega) (by simp; omega) ?_; intro a9 c9 w9 hown9 k91 k92 k93 hb9 hg9; have hk9 := KeptE.grown (owns_below HZ.out (balloc (bdrew1 (brefl wv)) _) (Nat.le_refl _)) hg9; have hkw : KeptE 3 wv w9 := ((KeptE.below (bdrew1 (brefl wv))).trans (KeptE.below (balloc (brefl _) _))).trans hk9; have h119 := (hkw.2 g11 _ _ _ h11 (by decide)).trans h11; have q9 := fun o => cell_of_heap h119 o; have f9 := fun o => froz_of_heap h119 o; have l9 := (Array.getElem?_eq_some_iff.1 h119).1; have HO9 := Lib.hid hown9; have HB9 := Lib.hid ((((Below.refl g11 wv).drew).alloc (by simp; omega) _).trans hb9); clear hown9 k91 k92 k93 hb9 hg9; (try dsimp only [Act.put]); (try simp only [List.setIfInBounds_toArray, List.set_cons_succ, List.set_cons_zero]))) | (go_wp2_with ((go_at_call 39; (with_reducible refine (HUS.out _ (by omega) _ (bdrew1 HBW.out)).mono ?_); rintro e w_ ⟨rfl, rfl⟩)))); refine HK_.out _ _ (kepE_of (by repeat (first | exact KeptE.refl _ _ | assumption | refine KeptE.trans ?_ (KeptE.below (bdrew1 (brefl _))) | refine KeptE.trans ?_ (KeptE.below (balloc (brefl _) _)) | refine KeptE.trans ?_ (KeptE.below (by assumption)) | refine KeptE.trans ?_ (by assumption)))) ?_; clear HK_)
            (refine z_run (by simp only [List.getElem?_toArray, List.getElem?_cons_succ, List.getElem?_cons_zero]; rfl) (by rfl) (by rfl) (fun K_ hK_ => ?_); have HK_ := Lib.hid hK_; clear hK_; (first | ((refine wpAppO _ _ 34 rfl g11 3 (.int .i64 0) 1 8 Try.underlying34 ints_info rfl (by decide) _ q (intsV zs) rfl (owns_below HZ.out (balloc (bdrew1 (brefl wv)) _) (Nat.le_refl _)) ⟨wv.heap.size, 0, none⟩ 1 1 (intsV [(S : Int)]) rfl rfl (has_alloc _ _ _) (fun u hu => by simp [intsV] at hu; subst hu; rfl) (by unfold maxLen; omega) (by omega) (by simp; omega) ?_; intro a9 c9 w9 hown9 k91 k92 k93 hb9 hg9; have hk9 := KeptE.grown (owns_below HZ.out (balloc (bdrew1 (brefl wv)) _) (Nat.le_refl _)) hg9; have hkw : KeptE 3 wv w9 := ((KeptE.below (bdrew1 (brefl wv))).trans (KeptE.below (balloc (brefl _) _))).trans hk9; have h119 := (hkw.2 g11 _ _ _ h11 (by decide)).trans h11; have q9 := fun o => cell_of_heap h119 o; have f9 := fun o => froz_of_heap h119 o; have l9 := (Array.getElem?_eq_some_iff.1 h119).1; have HO9 := Lib.hid hown9; have HB9 := Lib.hid ((((Below.refl g11 wv).drew).alloc (by simp; omega) _).trans hb9); clear hown9 k91 k92 k93 hb9 hg9; (try dsimp only [Act.put]); (try simp only [List.setIfInBounds_toArray, List.set_cons_succ, List.set_cons_zero]))) | (go_wp2_with ((go_at_call 39; (with_reducible refine (HUS.out _ (by omega) _ (bdrew1 HBW.out)).mono ?_); rintro e w_ ⟨rfl, rfl⟩)))); refine HK_.out _ _ (kepE_of (by repeat (first | exact KeptE.refl _ _ | assumption | refine KeptE.trans ?_ (KeptE.below (bdrew1 (brefl _))) | refine KeptE.trans ?_ (KeptE.below (balloc (brefl _) _)) | refine KeptE.trans ?_ (KeptE.below (by assumption)) | refine KeptE.trans ?_ (by assumption)))) ?_; clear HK_)
            (refine z_quiet (by simp only [List.getElem?_toArray, List.getElem?_cons_succ, List.getElem?_cons_zero]; rfl) (by rfl) (by rfl) (fun K_ hK_ => ?_); go_big_quiet_op; refine hK_ _ ?_; clear hK_ K_)
            (refine z_last (by simp only [List.getElem?_toArray, List.getElem?_cons_succ, List.getElem?_cons_zero]; rfl) (by rfl) (by rfl) (by rfl) (fun K_ hK_ => ?_); have HK_ := Lib.hid hK_; clear hK_; (first | ((refine wpAppO _ _ 34 rfl g11 3 (.int .i64 0) 1 8 Try.underlying34 ints_info rfl (by decide) _ q (intsV zs) rfl (owns_below HZ.out (balloc (bdrew1 (brefl wv)) _) (Nat.le_refl _)) ⟨wv.heap.size, 0, none⟩ 1 1 (intsV [(S : Int)]) rfl rfl (has_alloc _ _ _) (fun u hu => by simp [intsV] at hu; subst hu; rfl) (by unfold maxLen; omega) (by omega) (by simp; omega) ?_; intro a9 c9 w9 hown9 k91 k92 k93 hb9 hg9; have hk9 := KeptE.grown (owns_below HZ.out (balloc (bdrew1 (brefl wv)) _) (Nat.le_refl _)) hg9; have hkw : KeptE 3 wv w9 := ((KeptE.below (bdrew1 (brefl wv))).trans (KeptE.below (balloc (brefl _) _))).trans hk9; have h119 := (hkw.2 g11 _ _ _ h11 (by decide)).trans h11; have q9 := fun o => cell_of_heap h119 o; have f9 := fun o => froz_of_heap h119 o; have l9 := (Array.getElem?_eq_some_iff.1 h119).1; have HO9 := Lib.hid hown9; have HB9 := Lib.hid ((((Below.refl g11 wv).drew).alloc (by simp; omega) _).trans hb9); clear hown9 k91 k92 k93 hb9 hg9; (try dsimp only [Act.put]); (try simp only [List.setIfInBounds_toArray, List.set_cons_succ, List.set_cons_zero]))) | (go_wp2_with ((go_at_call 39; (with_reducible refine (HUS.out _ (by omega) _ (bdrew1 HBW.out)).mono ?_); rintro e w_ ⟨rfl, rfl⟩)))); refine HK_.out _ _ ?_; clear HK_)
            refine z_nil ?_
            clear hK0_
            go_wp2_with fail
            go_roundw
            case rel => exact ⟨q + 1, a9, c9, zs ++ [(S : Int)], hltq, by go_num, set_heap_at (o := 3) (.slice a9 (q + 1) c9) h119, by rw [intsV_app]; exact set_owns _ HO9.out (own_neE HO9.out h119 (by decide)), by rw [List.length_append, HZL.out]; rfl, bset (HBV.out.trans (HG.out ▸ HB9.out)) (p := ⟨g11, 3, none⟩) (by show wr.heap.size ≤ g11; rw [HG.out]; exact Nat.le_refl _) _⟩
            case measure => simp [intOf]; omega
          · obtain rfl : M = q := by omega
            by_cases hbit : L / 16384 % 2 = 1
            · have b1 : ((L : Int) / 16384 % 2 == 1) = true := by rw [beq_iff_eq]; omega
              obtain ⟨fi, hfi⟩ : ∃ fi, fi = L % 256 := ⟨_, rfl⟩
              have b2 : (L : Int) % 256 = (fi : Int) := by omega
              clear hbit hfi
              cases x with
              | false =>
                have HXB := Lib.hid HBV.out
                have hzw2 := HBW.out.size
 
                go_wp2_with (at_builtin; refine wpApp rfl _ _ 46 rfl w.heap.size 74 (.agg #[.int .i64 0, .bool false, .int .i64 0, .slice none 0 0]) 4 48 Try.underlying46 featR_info rfl (by decide) _ k (fents fs) rfl (owns_below HO.out (balloc HXB.out _) (Nat.le_refl _)) (some ⟨wv.heap.size, 0, none⟩) 1 1 (fents [⟨T, false, (-1), .slice aS M cS⟩]) rfl rfl (has_alloc _ _ _) (fun h => by cases h) (fun u hu => by simp [fents, FEnt.enc] at hu; rcases hu with rfl | rfl | rfl | rfl <;> rfl) (by unfold maxLen; omega) (by omega) (by simp only [World.size_alloc]; omega) ?_; intro a7 c7 w7 hown7 _ _ _ hb7 _; rw [← fents_app] at hown7; have HO7 := Lib.hid hown7; have HB7 := Lib.hid ((((HB.out.trans (HXB.out.mono hzr)).alloc (hzw2) _)).trans hb7); clear hown7 hb7; (try dsimp only [Act.put]); (try simp only [List.setIfInBounds_toArray, List.set_cons_succ, List.set_cons_zero]))
                go_roundw
                case rel => exact ⟨k + 1, a7, c7, fs ++ [⟨T, false, (-1), .slice aS M cS⟩], hlt, by go_num, rfl, HO7.out, by rw [List.length_append, HFL.out]; rfl, tyEx_snoc HTY.out (by rw [HFL.out]; exact HTD.out.symm) (by rw [HFL.out]; exact HDX.out.symm), HRN.out, HB7.out⟩
                case measure => simp [intOf]; omega
              | true =>
                by_cases hfm : fi < M
                · obtain ⟨z, hz⟩ : ∃ z, zs[fi]? = some z := ⟨_, List.getElem?_eq_getElem (by rw [HZL.out]; exact hfm)⟩
                  obtain ⟨p, hp, hc⟩ := has_of_owns HZ.out fi (.int .i64 z) (by simp [intsV, hz])
                  subst hp
                  have HXB := Lib.hid (show Below wr.heap.size wr (wv.setCell ⟨g11, 2, none⟩ (.int .i64 z)) from bset HBV.out (p := ⟨g11, 2, none⟩) (by show wr.heap.size ≤ g11; rw [HG.out]; exact Nat.le_refl _) _)
                  have hzw2 := HBW.out.size
                  have hzs : (wv.setCell ⟨g11, 2, none⟩ (.int .i64 z)).heap.size = wv.heap.size := by simp [World.setCell]
                  have HZS := Lib.hid hzs
                  clear hz hzs
                  go_wp2_with (at_builtin; refine wpApp rfl _ _ 46 rfl w.heap.size 74 (.agg #[.int .i64 0, .bool false, .int .i64 0, .slice none 0 0]) 4 48 Try.underlying46 featR_info rfl (by decide) _ k (fents fs) rfl (owns_below HO.out (balloc HXB.out _) (Nat.le_refl _)) (some ⟨wv.heap.size, 0, none⟩) 1 1 (fents [⟨T, true, z, .slice (some p) M cS⟩]) rfl rfl (by have := has_alloc (wv.setCell ⟨g11, 2, none⟩ (.int .i64 z)) #[.int .i64 (T : Nat), .bool true, .int .i64 z, .slice (some p) M cS] 74; rw [HZS.out] at this; exact this) (fun h => by cases h) (fun u hu => by simp [fents, FEnt.enc] at hu; rcases hu with rfl | rfl | rfl | rfl <;> rfl) (by unfold maxLen; omega) (by omega) (by first | omega | (simp only [World.size_alloc]; have := HZS.out; omega)) ?_; intro a7 c7 w7 hown7 _ _ _ hb7 _; rw [← fents_app] at hown7; have HO7 := Lib.hid hown7; have HB7 := Lib.hid ((((HB.out.trans (HXB.out.mono hzr)).alloc (by have := HZS.out; omega) _)).trans hb7); clear hown7 hb7; (try dsimp only [Act.put]); (try simp only [List.setIfInBounds_toArray, List.set_cons_succ, List.set_cons_zero]))
                  go_roundw
                  case rel => exact ⟨k + 1, a7, c7, fs ++ [⟨T, true, z, .slice (some p) M cS⟩], hlt, by go_num, rfl, HO7.out, by rw [List.length_append, HFL.out]; rfl, tyEx_snoc HTY.out (by rw [HFL.out]; exact HTD.out.symm) (by rw [HFL.out]; exact HDX.out.symm), HRN.out, HB7.out⟩
                  case measure => simp [intOf]; omega
                · have e3 : decide ((fi : Int) < (M : Int)) = false := by simp; omega
                  have e4 : decide (fi < M) = false := by simp; omega
                  have HXB := Lib.hid HBV.out
                  have hzw2 := HBW.out.size
 
                  go_wp2_with (at_builtin; refine wpApp rfl _ _ 46 rfl w.heap.size 74 (.agg #[.int .i64 0, .bool false, .int .i64 0, .slice none 0 0]) 4 48 Try.underlying46 featR_info rfl (by decide) _ k (fents fs) rfl (owns_below HO.out (balloc HXB.out _) (Nat.le_refl _)) (some ⟨wv.heap.size, 0, none⟩) 1 1 (fents [⟨T, true, (-1), .slice aS M cS⟩]) rfl rfl (has_alloc _ _ _) (fun h => by cases h) (fun u hu => by simp [fents, FEnt.enc] at hu; rcases hu with rfl | rfl | rfl | rfl <;> rfl) (by unfold maxLen; omega) (by omega) (by simp only [World.size_alloc]; omega) ?_; intro a7 c7 w7 hown7 _ _ _ hb7 _; rw [← fents_app] at hown7; have HO7 := Lib.hid hown7; have HB7 := Lib.hid ((((HB.out.trans (HXB.out.mono hzr)).alloc (hzw2) _)).trans hb7); clear hown7 hb7; (try dsimp only [Act.put]); (try simp only [List.setIfInBounds_toArray, List.set_cons_succ, List.set_cons_zero]))
                  go_roundw
                  case rel => exact ⟨k + 1, a7, c7, fs ++ [⟨T, true, (-1), .slice aS M cS⟩], hlt, by go_num, rfl, HO7.out, by rw [List.length_append, HFL.out]; rfl, tyEx_snoc HTY.out (by rw [HFL.out]; exact HTD.out.symm) (by rw [HFL.out]; exact HDX.out.symm), HRN.out, HB7.out⟩
                  case measure => simp [intOf]; omega
            · have b1 : ((L : Int) / 16384 % 2 == 1) = false := by rw [beq_eq_false_iff_ne]; omega
              clear hbit
              cases x with
              | false =>
                have HXB := Lib.hid HBV.out
                have hzw2 := HBW.out.size
 
                go_wp2_with (at_builtin; refine wpApp rfl _ _ 46 rfl w.heap.size 74 (.agg #[.int .i64 0, .bool false, .int .i64 0, .slice none 0 0]) 4 48 Try.underlying46 featR_info rfl (by decide) _ k (fents fs) rfl (owns_below HO.out (balloc HXB.out _) (Nat.le_refl _)) (some ⟨wv.heap.size, 0, none⟩) 1 1 (fents [⟨T, false, (-1), .slice aS M cS⟩]) rfl rfl (has_alloc _ _ _) (fun h => by cases h) (fun u hu => by simp [fents, FEnt.enc] at hu; rcases hu with rfl | rfl | rfl | rfl <;> rfl) (by unfold maxLen; omega) (by omega) (by simp only [World.size_alloc]; omega) ?_; intro a7 c7 w7 hown7 _ _ _ hb7 _; rw [← fents_app] at hown7; have HO7 := Lib.hid hown7; have HB7 := Lib.hid ((((HB.out.trans (HXB.out.mono hzr)).alloc (hzw2) _)).trans hb7); clear hown7 hb7; (try dsimp only [Act.put]); (try simp only [List.setIfInBounds_toArray, List.set_cons_succ, List.set_cons_zero]))
                go_roundw
                case rel => exact ⟨k + 1, a7, c7, fs ++ [⟨T, false, (-1), .slice aS M cS⟩], hlt, by go_num, rfl, HO7.out, by rw [List.length_append, HFL.out]; rfl, tyEx_snoc HTY.out (by rw [HFL.out]; exact HTD.out.symm) (by rw [HFL.out]; exact HDX.out.symm), HRN.out, HB7.out⟩
                case measure => simp [intOf]; omega
              | true =>
                by_cases hfm : 0 < M
                · obtain ⟨z, hz⟩ : ∃ z, zs[0]? = some z := ⟨_, List.getElem?_eq_getElem (by rw [HZL.out]; exact hfm)⟩
                  obtain ⟨p, hp, hc⟩ := has_of_owns HZ.out 0 (.int .i64 z) (by simp [intsV, hz])
                  subst hp
                  have hc0 : wv.cell? p = some (.int .i64 z) := by simpa [Addr.add] using hc
                  have HXB := Lib.hid (show Below wr.heap.size wr (wv.setCell ⟨g11, 2, none⟩ (.int .i64 z)) from bset HBV.out (p := ⟨g11, 2, none⟩) (by show wr.heap.size ≤ g11; rw [HG.out]; exact Nat.le_refl _) _)
                  have hzw2 := HBW.out.size
                  have hzs : (wv.setCell ⟨g11, 2, none⟩ (.int .i64 z)).heap.size = wv.heap.size := by simp [World.setCell]
                  have HZS := Lib.hid hzs
                  clear hz hzs
                  go_wp2_with (at_builtin; refine wpApp rfl _ _ 46 rfl w.heap.size 74 (.agg #[.int .i64 0, .bool false, .int .i64 0, .slice none 0 0]) 4 48 Try.underlying46 featR_info rfl (by decide) _ k (fents fs) rfl (owns_below HO.out (balloc HXB.out _) (Nat.le_refl _)) (some ⟨wv.heap.size, 0, none⟩) 1 1 (fents [⟨T, true, z, .slice (some p) M cS⟩]) rfl rfl (by have := has_alloc (wv.setCell ⟨g11, 2, none⟩ (.int .i64 z)) #[.int .i64 (T : Nat), .bool true, .int .i64 z, .slice (some p) M cS] 74; rw [HZS.out] at this; exact this) (fun h => by cases h) (fun u hu => by simp [fents, FEnt.enc] at hu; rcases hu with rfl | rfl | rfl | rfl <;> rfl) (by unfold maxLen; omega) (by omega) (by first | omega | (simp only [World.size_alloc]; have := HZS.out; omega)) ?_; intro a7 c7 w7 hown7 _ _ _ hb7 _; rw [← fents_app] at hown7; have HO7 := Lib.hid hown7; have HB7 := Lib.hid ((((HB.out.trans (HXB.out.mono hzr)).alloc (by have := HZS.out; omega) _)).trans hb7); clear hown7 hb7; (try dsimp only [Act.put]); (try simp only [List.setIfInBounds_toArray, List.set_cons_succ, List.set_cons_zero]))
                  go_roundw
                  case rel => exact ⟨k + 1, a7, c7, fs ++ [⟨T, true, z, .slice (some p) M cS⟩], hlt, by go_num, rfl, HO7.out, by rw [List.length_append, HFL.out]; rfl, tyEx_snoc HTY.out (by rw [HFL.out]; exact HTD.out.symm) (by rw [HFL.out]; exact HDX.out.symm), HRN.out, HB7.out⟩
                  case measure => simp [intOf]; omega
                · have e3 : decide ((0 : Int) < (M : Int)) = false := by simp; omega
                  have e4 : decide (0 < M) = false := by simp; omega
                  have HXB := Lib.hid HBV.out
                  have hzw2 := HBW.out.size
 
                  go_wp2_with (at_builtin; refine wpApp rfl _ _ 46 rfl w.heap.size 74 (.agg #[.int .i64 0, .bool false, .int .i64 0, .slice none 0 0]) 4 48 Try.underlying46 featR_info rfl (by decide) _ k (fents fs) rfl (owns_below HO.out (balloc HXB.out _) (Nat.le_refl _)) (some ⟨wv.heap.size, 0, none⟩) 1 1 (fents [⟨T, true, (-1), .slice aS M cS⟩]) rfl rfl (has_alloc _ _ _) (fun h => by cases h) (fun u hu => by simp [fents, FEnt.enc] at hu; rcases hu with rfl | rfl | rfl | rfl <;> rfl) (by unfold maxLen; omega) (by omega) (by simp only [World.size_alloc]; omega) ?_; intro a7 c7 w7 hown7 _ _ _ hb7 _; rw [← fents_app] at hown7; have HO7 := Lib.hid hown7; have HB7 := Lib.hid ((((HB.out.trans (HXB.out.mono hzr)).alloc (hzw2) _)).trans hb7); clear hown7 hb7; (try dsimp only [Act.put]); (try simp only [List.setIfInBounds_toArray, List.set_cons_succ, List.set_cons_zero]))
                  go_roundw
                  case rel => exact ⟨k + 1, a7, c7, fs ++ [⟨T, true, (-1), .slice aS M cS⟩], hlt, by go_num, rfl, HO7.out, by rw [List.length_append, HFL.out]; rfl, tyEx_snoc HTY.out (by rw [HFL.out]; exact HTD.out.symm) (by rw [HFL.out]; exact HDX.out.symm), HRN.out, HB7.out⟩
                  case measure => simp [intOf]; omega
      · replace hk0 : 0 < k := by omega
        obtain ⟨i, hi⟩ : ∃ i, k = i + 1 := ⟨k - 1, by omega⟩
        obtain ⟨f, hf⟩ : ∃ f, fs[i]? = some f := ⟨_, List.getElem?_eq_getElem (by rw [HFL.out]; omega)⟩
        have hft := (HTY.out i f hf).1
        obtain ⟨b, o, ha, hbl, e0, e1, _, _⟩ := fent_cells (has_of_owns HOU.out) hf
        subst ha
        have d0 : decide (0 < (k : Int)) = true := by simp; omega
        have hji : (k : Int) - 1 = (i : Int) := by omega
        have hij : i < k := by omega
        by_cases hty : T ≤ f.ty
        · have HNO := Lib.hid (show ¬ RiseT bs N from fun hr => by
            have := hr i (by omega)
            rw [← hft, show i + 1 = k by omega, HTD.out] at this
            omega)
          have d1 : decide ((T : Int) ≤ (f.ty : Int)) = true := by simp; omega
          have d2 : decide (T ≤ f.ty) = true := by simp; omega
          generalize f.ty = fty at *
          clear hf hft hi hty
          refine wp_region_tree (.step 0 (.step 1 (.step 2 (.step 3 (.step 4 (.step 5 (.step 6 (.step 7 (.step 8 (.step 9 (.step 10 (.step 11 (.step 12 (.step 13 (.step 14 (.step 15 (.step 16 (.step 17 (.step 18 (.step 19 (.step 20 .nil))))))))))))))))))))) (by kernel_rfl) (by kernel_rfl) (by kernel_rfl) (by kernel_rfl) (by intro _ _ d_ _ _ h_; cases d_ <;> first | exact h_ | (dsimp +zetaDelta only at h_ ⊢; exact h_)) (fun w' => ∃ p : Wld U [], w' = p.val) (wld_start _ _) ?_
          have hG_ := @wldC U
          (refine tree_quiet (by simp only [List.getElem?_toArray, List.getElem?_cons_succ, List.getElem?_cons_zero]; rfl) (by rfl) (by rfl) (fun K_ hK_ => ?_); go_big_quiet_op; refine hK_ _ ?_; clear hK_ K_)
          (refine tree_quiet (by simp only [List.getElem?_toArray, List.getElem?_cons_succ, List.getElem?_cons_zero]; rfl) (by rfl) (by rfl) (fun K_ hK_ => ?_); go_big_quiet_op; refine hK_ _ ?_; clear hK_ K_)
          (refine tree_quiet (by simp only [List.getElem?_toArray, List.getElem?_cons_succ, List.getElem?_cons_zero]; rfl) (by rfl) (by rfl) (fun K_ hK_ => ?_); go_big_quiet_op; refine hK_ _ ?_; clear hK_ K_)
          (refine tree_quiet (by simp only [List.getElem?_toArray, List.getElem?_cons_succ, List.getElem?_cons_zero]; rfl) (by rfl) (by rfl) (fun K_ hK_ => ?_); go_big_quiet_op; refine hK_ _ ?_; clear hK_ K_)
          (refine tree_run (by simp only [List.getElem?_toArray, List.getElem?_cons_succ, List.getElem?_cons_zero]; rfl) (by rfl) (by rfl) (fun K_ hK_ => ?_); have HK_ := Lib.hid hK_; clear hK_; go_wp2_with ((go_at_call 40; (with_reducible refine (HRR.out _).mono ?_); rintro e w_ ⟨rfl, rfl⟩)); refine HK_.out _ _ (wld_ofA) ?_; clear HK_)
          (refine tree_quiet (by simp only [List.getElem?_toArray, List.getElem?_cons_succ, List.getElem?_cons_zero]; rfl) (by rfl) (by rfl) (fun K_ hK_ => ?_); go_big_quiet_op; refine hK_ _ ?_; clear hK_ K_)
          (refine tree_quiet (by simp only [List.getElem?_toArray, List.getElem?_cons_succ, List.getElem?_cons_zero]; rfl) (by rfl) (by rfl) (fun K_ hK_ => ?_); go_big_quiet_op; refine hK_ _ ?_; clear hK_ K_)
          (refine tree_quiet (by simp only [List.getElem?_toArray, List.getElem?_cons_succ, List.getElem?_cons_zero]; rfl) (by rfl) (by rfl) (fun K_ hK_ => ?_); go_big_quiet_op; refine hK_ _ ?_; clear hK_ K_)
          (refine tree_quiet (by simp only [List.getElem?_toArray, List.getElem?_cons_succ, List.getElem?_cons_zero]; rfl) (by rfl) (by rfl) (fun K_ hK_ => ?_); go_big_quiet_op; refine hK_ _ ?_; clear hK_ K_)
          (refine tree_quiet (by simp only [List.getElem?_toArray, List.getElem?_cons_succ, List.getElem?_cons_zero]; rfl) (by rfl) (by rfl) (fun K_ hK_ => ?_); go_big_quiet_op; refine hK_ _ ?_; clear hK_ K_)
          (refine tree_quiet (by simp only [List.getElem?_toArray, List.getElem?_cons_succ, List.getElem?_cons_zero]; rfl) (by rfl) (by rfl) (fun K_ hK_ => ?_); go_big_quiet_op; refine hK_ _ ?_; clear hK_ K_)
          (refine tree_quiet (by simp only [List.getElem?_toArray, List.getElem?_cons_succ, List.getElem?_cons_zero]; rfl) (by rfl) (by rfl) (fun K_ hK_ => ?_); go_big_quiet_op; refine hK_ _ ?_; clear hK_ K_)
          (refine tree_quiet (by simp only [List.getElem?_toArray, List.getElem?_cons_succ, List.getElem?_cons_zero]; rfl) (by rfl) (by rfl) (fun K_ hK_ => ?_); go_big_quiet_op; refine hK_ _ ?_; clear hK_ K_)
          (refine tree_quiet (by simp only [List.getElem?_toArray, List.getElem?_cons_succ, List.getElem?_cons_zero]; rfl) (by rfl) (by rfl) (fun K_ hK_ => ?_); go_big_quiet_op; refine hK_ _ ?_; clear hK_ K_)
          (refine tree_quiet (by simp only [List.getElem?_toArray, List.getElem?_cons_succ, List.getElem?_cons_zero]; rfl) (by rfl) (by rfl) (fun K_ hK_ => ?_); go_big_quiet_op; refine hK_ _ ?_; clear hK_ K_)
          (refine tree_quiet (by simp only [List.getElem?_toArray, List.getElem?_cons_succ, List.getElem?_cons_zero]; rfl) (by rfl) (by rfl) (fun K_ hK_ => ?_); go_big_quiet_op; refine hK_ _ ?_; clear hK_ K_)
          (refine tree_quiet (by simp only [List.getElem?_toArray, List.getElem?_cons_succ, List.getElem?_cons_zero]; rfl) (by rfl) (by rfl) (fun K_ hK_ => ?_); go_big_quiet_op; refine hK_ _ ?_; clear hK_ K_)
          (refine tree_quiet (by simp only [List.getElem?_toArray, List.getElem?_cons_succ, List.getElem?_cons_zero]; rfl) (by rfl) (by rfl) (fun K_ hK_ => ?_); go_big_quiet_op; refine hK_ _ ?_; clear hK_ K_)
          (refine tree_quiet (by simp only [List.getElem?_toArray, List.getElem?_cons_succ, List.getElem?_cons_zero]; rfl) (by rfl) (by rfl) (fun K_ hK_ => ?_); go_big_quiet_op; refine hK_ _ ?_; clear hK_ K_)
          (refine tree_quiet (by simp only [List.getElem?_toArray, List.getElem?_cons_succ, List.getElem?_cons_zero]; rfl) (by rfl) (by rfl) (fun K_ hK_ => ?_); go_big_quiet_op; refine hK_ _ ?_; clear hK_ K_)
          (refine tree_quiet (by simp only [List.getElem?_toArray, List.getElem?_cons_succ, List.getElem?_cons_zero]; rfl) (by rfl) (by rfl) (fun K_ hK_ => ?_); go_big_quiet_op; refine hK_ _ ?_; clear hK_ K_)
          refine tree_nil ?_
          clear hG_
          go_wp2_with fail
          go_ret2
          exact ⟨.inr ⟨HNO.out, rfl⟩, bdrew1 (bthen hb HBU.out)⟩
        · have d1 : decide ((T : Int) ≤ (f.ty : Int)) = false := by simp; omega
          have d2 : decide (T ≤ f.ty) = false := by simp; omega
          have HRN := Lib.hid (show RiseT bs (k + 1) from by
            have h1 : RiseT bs (i + 2) := riseT_next.2 ⟨by rw [show i + 1 = k by omega]; exact HRI.out, by rw [← hft, show i + 1 = k by omega, HTD.out]; omega⟩
            rw [show k + 1 = i + 2 by omega]; exact h1)
          generalize f.ty = fty at *
          clear hf hft hi hty
          refine wp_region_tree (.step 0 (.step 1 (.step 2 (.step 3 (.step 4 (.step 5 (.step 6 (.step 7 (.step 8 (.step 9 (.step 10 (.step 11 (.step 12 (.step 13 (.step 14 (.step 15 (.step 16 (.step 17 (.step 18 (.step 19 (.step 20 .nil))))))))))))))))))))) (by kernel_rfl) (by kernel_rfl) (by kernel_rfl) (by kernel_rfl) (by intro _ _ d_ _ _ h_; cases d_ <;> first | exact h_ | (dsimp +zetaDelta only at h_ ⊢; exact h_)) (fun w' => ∃ p : Wld U [], w' = p.val) (wld_start _ _) ?_
          have hG_ := @wldC U
          (refine tree_quiet (by simp only [List.getElem?_toArray, List.getElem?_cons_succ, List.getElem?_cons_zero]; rfl) (by rfl) (by rfl) (fun K_ hK_ => ?_); go_big_quiet_op; refine hK_ _ ?_; clear hK_ K_)
          (refine tree_quiet (by simp only [List.getElem?_toArray, List.getElem?_cons_succ, List.getElem?_cons_zero]; rfl) (by rfl) (by rfl) (fun K_ hK_ => ?_); go_big_quiet_op; refine hK_ _ ?_; clear hK_ K_)
          (refine tree_quiet (by simp only [List.getElem?_toArray, List.getElem?_cons_succ, List.getElem?_cons_zero]; rfl) (by rfl) (by rfl) (fun K_ hK_ => ?_); go_big_quiet_op; refine hK_ _ ?_; clear hK_ K_)
          (refine tree_quiet (by simp only [List.getElem?_toArray, List.getElem?_cons_succ, List.getElem?_cons_zero]; rfl) (by rfl) (by rfl) (fun K_ hK_ => ?_); go_big_quiet_op; refine hK_ _ ?_; clear hK_ K_)
          (refine tree_run (by simp only [List.getElem?_toArray, List.getElem?_cons_succ, List.getElem?_cons_zero]; rfl) (by rfl) (by rfl) (fun K_ hK_ => ?_); have HK_ := Lib.hid hK_; clear hK_; go_wp2_with ((go_at_call 40; (with_reducible refine (HRR.out _).mono ?_); rintro e w_ ⟨rfl, rfl⟩)); refine HK_.out _ _ (wld_ofA) ?_; clear HK_)
          (refine tree_quiet (by simp only [List.getElem?_toArray, List.getElem?_cons_succ, List.getElem?_cons_zero]; rfl) (by rfl) (by rfl) (fun K_ hK_ => ?_); go_big_quiet_op; refine hK_ _ ?_; clear hK_ K_)
          (refine tree_quiet (by simp only [List.getElem?_toArray, List.getElem?_cons_succ, List.getElem?_cons_zero]; rfl) (by rfl) (by rfl) (fun K_ hK_ => ?_); go_big_quiet_op; refine hK_ _ ?_; clear hK_ K_)
          (refine tree_quiet (by simp only [List.getElem?_toArray, List.getElem?_cons_succ, List.getElem?_cons_zero]; rfl) (by rfl) (by rfl) (fun K_ hK_ => ?_); go_big_quiet_op; refine hK_ _ ?_; clear hK_ K_)
          (refine tree_quiet (by simp only [List.getElem?_toArray, List.getElem?_cons_succ, List.getElem?_cons_zero]; rfl) (by rfl) (by rfl) (fun K_ hK_ => ?_); go_big_quiet_op; refine hK_ _ ?_; clear hK_ K_)
          (refine tree_quiet (by simp only [List.getElem?_toArray, List.getElem?_cons_succ, List.getElem?_cons_zero]; rfl) (by rfl) (by rfl) (fun K_ hK_ => ?_); go_big_quiet_op; refine hK_ _ ?_; clear hK_ K_)
          (refine tree_quiet (by simp only [List.getElem?_toArray, List.getElem?_cons_succ, List.getElem?_cons_zero]; rfl) (by rfl) (by rfl) (fun K_ hK_ => ?_); go_big_quiet_op; refine hK_ _ ?_; clear hK_ K_)
          (refine tree_quiet (by simp only [List.getElem?_toArray, List.getElem?_cons_succ, List.getElem?_cons_zero]; rfl) (by rfl) (by rfl) (fun K_ hK_ => ?_); go_big_quiet_op; refine hK_ _ ?_; clear hK_ K_)
          (refine tree_quiet (by simp only [List.getElem?_toArray, List.getElem?_cons_succ, List.getElem?_cons_zero]; rfl) (by rfl) (by rfl) (fun K_ hK_ => ?_); go_big_quiet_op; refine hK_ _ ?_; clear hK_ K_)
          (refine tree_quiet (by simp only [List.getElem?_toArray, List.getElem?_cons_succ, List.getElem?_cons_zero]; rfl) (by rfl) (by rfl) (fun K_ hK_ => ?_); go_big_quiet_op; refine hK_ _ ?_; clear hK_ K_)
          (refine tree_quiet (by simp only [List.getElem?_toArray, List.getElem?_cons_succ, List.getElem?_cons_zero]; rfl) (by rfl) (by rfl) (fun K_ hK_ => ?_); go_big_quiet_op; refine hK_ _ ?_; clear hK_ K_)
          (refine tree_quiet (by simp only [List.getElem?_toArray, List.getElem?_cons_succ, List.getElem?_cons_zero]; rfl) (by rfl) (by rfl) (fun K_ hK_ => ?_); go_big_quiet_op; refine hK_ _ ?_; clear hK_ K_)
          (refine tree_quiet (by simp only [List.getElem?_toArray, List.getElem?_cons_succ, List.getElem?_cons_zero]; rfl) (by rfl) (by rfl) (fun K_ hK_ => ?_); go_big_quiet_op; refine hK_ _ ?_; clear hK_ K_)
          (refine tree_quiet (by simp only [List.getElem?_toArray, List.getElem?_cons_succ, List.getElem?_cons_zero]; rfl) (by rfl) (by rfl) (fun K_ hK_ => ?_); go_big_quiet_op; refine hK_ _ ?_; clear hK_ K_)
          (refine tree_quiet (by simp only [List.getElem?_toArray, List.getElem?_cons_succ, List.getElem?_cons_zero]; rfl) (by rfl) (by rfl) (fun K_ hK_ => ?_); go_big_quiet_op; refine hK_ _ ?_; clear hK_ K_)
          (refine tree_quiet (by simp only [List.getElem?_toArray, List.getElem?_cons_succ, List.getElem?_cons_zero]; rfl) (by rfl) (by rfl) (fun K_ hK_ => ?_); go_big_quiet_op; refine hK_ _ ?_; clear hK_ K_)
          (refine tree_quiet (by simp only [List.getElem?_toArray, List.getElem?_cons_succ, List.getElem?_cons_zero]; rfl) (by rfl) (by rfl) (fun K_ hK_ => ?_); go_big_quiet_op; refine hK_ _ ?_; clear hK_ K_)
          refine tree_nil ?_
          clear hG_
          clear d0 d1 d2 hji e0 e1
          clear q11 hb
          obtain ⟨Y, hY⟩ : ∃ Y, Y = U.drew := ⟨_, rfl⟩
          have HYB := Lib.hid (show Below wr.heap.size wr Y from by rw [hY]; exact bdrew1 HBU.out)
          have H11Y := Lib.hid (show Y.heap[g11]? = some (.cells #[.int .i64 (T : Nat), .bool x, .int .i64 (-1), .slice none 0 0] 74 (0, 0)) from by rw [hY]; exact H11.out)
          have HNY := Lib.hid (show Y.ownsRow g11 3 1 (.slice none 0 0) 0 (intsV []) from ⟨rfl, .inl ⟨rfl, rfl⟩⟩)
          have hzY : g11 < Y.heap.size := (Array.getElem?_eq_some_iff.1 H11Y.out).1
          rw [← hY]
          clear hY H11 HOU HNIL HBU hzU
          go_wp2_with fail
          go_loopw [12] (fun j wv => ∃ (q : Nat) (aS : Option Addr) (cS : Nat) (zs : List Int), q ≤ M ∧ j = .int .i64 (q : Nat) ∧ wv.heap[g11]? = some (.cells #[.int .i64 (T : Nat), .bool x, .int .i64 (-1), .slice aS q cS] 74 (0, 0)) ∧ wv.ownsRow g11 3 1 (.slice aS q cS) q (intsV zs) ∧ zs.length = q ∧ Below wr.heap.size wr wv) (fun j _ => M - (intOf j).toNat)
          case atStart => exact ⟨0, none, 0, [], Nat.zero_le _, rfl, H11Y.out, HNY.out, rfl, HYB.out⟩
          case round =>
            rename World => wv
            obtain ⟨q, aS, cS, zs, hq, rfl, h11, hz, hzl, hbv⟩ := hrel
            have q11 := fun o => cell_of_heap h11 o
            have f11 := fun o => froz_of_heap h11 o
            have l11 := (Array.getElem?_eq_some_iff.1 h11).1
            have H11V := Lib.hid h11
            have HZ := Lib.hid hz
            have HZL := Lib.hid hzl
            have HBV := Lib.hid hbv
            have HBW := Lib.hid (HB.out.trans (hbv.mono hzr))
            clear hz hzl hbv
            by_cases hltq : q < M
            · have HUS := Lib.hid (fun z hz W hW => HU2.out z (F + 4 * q) hz (by omega) W hW)
              generalize num bs (F + 4 * q) 2 = S at *
              go_wp2_with fail
              refine wp_region_last (.step 0 (.step 1 (.step 2 (.step 3 (.step 4 (.step 5 (.step 6 (.step 7 (.step 8 (.step 9 (.step 10 (.step 11 .nil)))))))))))) 11 (by kernel_rfl) (by kernel_rfl) (by kernel_rfl) (by kernel_rfl) (by kernel_rfl) (by intro _ _ d_ _ _ h_; cases d_ <;> first | exact h_ | (dsimp +zetaDelta only at h_ ⊢; exact h_)) (fun w' => ∃ p : KepE 3 wv, w' = p.val) (kepE_start _ _) ?_
              have hK0_ := fun (p : KepE 3 wv) (o : Nat) => p.is.cell h11 (by decide) o
              (refine z_quiet (by simp only [List.getElem?_toArray, List.getElem?_cons_succ, List.getElem?_cons_zero]; rfl) (by rfl) (by rfl) (fun K_ hK_ => ?_); go_big_quiet_op; refine hK_ _ ?_; clear hK_ K_)
              (refine z_quiet (by simp only [List.getElem?_toArray, List.getElem?_cons_succ, List.getElem?_cons_zero]; rfl) (by rfl) (by rfl) (fun K_ hK_ => ?_); go_big_quiet_op; refine hK_ _ ?_; clear hK_ K_)
              (refine z_quiet (by simp only [List.getElem?_toArray, List.getElem?_cons_succ, List.getElem?_cons_zero]; rfl) (by rfl) (by rfl) (fun K_ hK_ => ?_); go_big_quiet_op; refine hK_ _ ?_; clear hK_ K_)
              (refine z_quiet (by simp only [List.getElem?_toArray, List.getElem?_cons_succ, List.getElem?_cons_zero]; rfl) (by rfl) (by rfl) (fun K_ hK_ => ?_); go_big_quiet_op; refine hK_ _ ?_; clear hK_ K_)
              (refine z_quiet (by simp only [List.getElem?_toArray, List.getElem?_cons_succ, List.getElem?_cons_zero]; rfl) (by rfl) (by rfl) (fun K_ hK_ => ?_); go_big_quiet_op; refine hK_ _ ?_; clear hK_ K_)
              (refine z_quiet (by simp only [List.getElem?_toArray, List.getElem?_cons_succ, List.getElem?_cons_zero]; rfl) (by rfl) (by rfl) (fun K_ hK_ => ?_); go_big_quiet_op; refine hK_ _ ?_; clear hK_ K_)
              (refine z_quiet (by simp only [List.getElem?_toArray, List.getElem?_cons_succ, List.getElem?_cons_zero]; rfl) (by rfl) (by rfl) (fun K_ hK_ => ?_); go_big_quiet_op; refine hK_ _ ?_; clear hK_ K_)
              (refine z_run (by simp only [List.getElem?_toArray, List.getElem?_cons_succ, List.getElem?_cons_zero]; rfl) (by rfl) (by rfl) (fun K_ hK_ => ?_); have HK_ := Lib.hid hK_; clear hK_; (first | ((refine wpAppO _ _ 34 rfl g11 3 (.int .i64 0) 1 8 Try.underlying34 ints_info rfl (by decide) _ q (intsV zs) rfl (owns_below HZ.out (balloc (bdrew1 (brefl wv)) _) (Nat.le_refl _)) ⟨wv.heap.size, 0, none⟩ 1 1 (intsV [(S : Int)]) rfl rfl (has_alloc _ _ _) (fun u hu => by simp [intsV] at hu; subst hu; rfl) (by unfold maxLen; omega) (by omega) (by simp; omega) ?_; intro a9 c9 w9 hown9 k91 k92 k93 hb9 hg9; have hk9 := KeptE.grown (owns_below HZ.out (balloc (bdrew1 (brefl wv)) _) (Nat.le_refl _)) hg9; have hkw : KeptE 3 wv w9 := ((KeptE.below (bdrew1 (brefl wv))).trans (KeptE.below (balloc (brefl _) _))).trans hk9; have h119 := (hkw.2 g11 _ _ _ h11 (by decide)).trans h11; have q9 := fun o => cell_of_heap h119 o; have f9 := fun o => froz_of_heap h119 o; have l9 := (Array.getElem?_eq_some_iff.1 h119).1; have HO9 := Lib.hid hown9; have HB9 := Lib.hid ((((Below.refl g11 wv).drew).alloc (by simp; omega) _).trans hb9); clear hown9 k91 k92 k93 hb9 hg9; (try dsimp only [Act.put]); (try simp only [List.setIfInBounds_toArray, List.set_cons_succ, List.set_cons_zero]))) | (go_wp2_with ((go_at_call 39; (with_reducible refine (HUS.out _ (by omega) _ (bdrew1 HBW.out)).mono ?_); rintro e w_ ⟨rfl, rfl⟩)))); refine HK_.out _ _ (kepE_of (by repeat (first | exact KeptE.refl _ _ | assumption | refine KeptE.trans ?_ (KeptE.below (bdrew1 (brefl _))) | refine KeptE.trans ?_ (KeptE.below (balloc (brefl _) _)) | refine KeptE.trans ?_ (KeptE.below (by assumption)) | refine KeptE.trans ?_ (by assumption)))) ?_; clear HK_)
              (refine z_run (by simp only [List.getElem?_toArray, List.getElem?_cons_succ, List.getElem?_cons_zero]; rfl) (by rfl) (by rfl) (fun K_ hK_ => ?_); have HK_ := Lib.hid hK_; clear hK_; (first | ((refine wpAppO _ _ 34 rfl g11 3 (.int .i64 0) 1 8 Try.underlying34 ints_info rfl (by decide) _ q (intsV zs) rfl (owns_below HZ.out (balloc (bdrew1 (brefl wv)) _) (Nat.le_refl _)) ⟨wv.heap.size, 0, none⟩ 1 1 (intsV [(S : Int)]) rfl rfl (has_alloc _ _ _) (fun u hu => by simp [intsV] at hu; subst hu; rfl) (by unfold maxLen; omega) (by omega) (by simp; omega) ?_; intro a9 c9 w9 hown9 k91 k92 k93 hb9 hg9; have hk9 := KeptE.grown (owns_below HZ.out (balloc (bdrew1 (brefl wv)) _) (Nat.le_refl _)) hg9; have hkw : KeptE 3 wv w9 := ((KeptE.below (bdrew1 (brefl wv))).trans (KeptE.below (balloc (brefl _) _))).trans hk9; have h119 := (hkw.2 g11 _ _ _ h11 (by decide)).trans h11; have q9 := fun o => cell_of_heap h119 o; have f9 := fun o => froz_of_heap h119 o; have l9 := (Array.getElem?_eq_some_iff.1 h119).1; have HO9 := Lib.hid hown9; have HB9 := Lib.hid ((((Below.refl g11 wv).drew).alloc (by simp; omega) _).trans hb9); clear hown9 k91 k92 k93 hb9 hg9; (try dsimp only [Act.put]); (try simp only [List.setIfInBounds_toArray, List.set_cons_succ, List.set_cons_zero]))) | (go_wp2_with ((go_at_call 39; (with_reducible refine (HUS.out _ (by omega) _ (bdrew1 HBW.out)).mono ?_); rintro e w_ ⟨rfl, rfl⟩)))); refine HK_.out _ _ (kepE_of (by repeat (first | exact KeptE.refl _ _ | assumption | refine KeptE.trans ?_ (KeptE.below (bdrew1 (brefl _))) | refine KeptE.trans ?_ (KeptE.below (balloc (brefl _) _)) | refine KeptE.trans ?_ (KeptE.below (by assumption)) | refine KeptE.trans ?_ (by assumption)))) ?_; clear HK_)
              (refine z_run (by simp only [List.getElem?_toArray, List.getElem?_cons_succ, List.getElem?_cons_zero]; rfl) (by rfl) (by rfl) (fun K_ hK_ => ?_); have HK_ := Lib.hid hK_; clear hK_; (first | ((refine wpAppO _ _ 34 rfl g11 3 (.int .i64 0) 1 8 Try.underlying34 ints_info rfl (by decide) _ q (intsV zs) rfl (owns_below HZ.out (balloc (bdrew1 (brefl wv)) _) (Nat.le_refl _)) ⟨wv.heap.size, 0, none⟩ 1 1 (intsV [(S : Int)]) rfl rfl (has_alloc _ _ _) (fun u hu => by simp [intsV] at hu; subst hu; rfl) (by unfold maxLen; omega) (by omega) (by simp; omega) ?_; intro a9 c9 w9 hown9 k91 k92 k93 hb9 hg9; have hk9 := KeptE.grown (owns_below HZ.out (balloc (bdrew1 (brefl wv)) _) (Nat.le_refl _)) hg9; have hkw : KeptE 3 wv w9 := ((KeptE.below (bdrew1 (brefl wv))).trans (KeptE.below (balloc (brefl _) _))).trans hk9; have h119 := (hkw.2 g11 _ _ _ h11 (by decide)).trans h11; have q9 := fun o => cell_of_heap h119 o; have f9 := fun o => froz_of_heap h119 o; have l9 := (Array.getElem?_eq_some_iff.1 h119).1; have HO9 := Lib.hid hown9; have HB9 := Lib.hid ((((Below.refl g11 wv).drew).alloc (by simp; omega) _).trans hb9); clear hown9 k91 k92 k93 hb9 hg9; (try dsimp only [Act.put]); (try simp only [List.setIfInBounds_toArray, List.set_cons_succ, List.set_cons_zero]))) | (go_wp2_with ((go_at_call 39; (with_reducible refine (HUS.out _ (by omega) _ (bdrew1 HBW.out)).mono ?_); rintro e w_ ⟨rfl, rfl⟩)))); refine HK_.out _ _ (kepE_of (by repeat (first | exact KeptE.refl _ _ | assumption | refine KeptE.trans ?_ (KeptE.below (bdrew1 (brefl _))) | refine KeptE.trans ?_ (KeptE.below (balloc (brefl _) _)) | refine KeptE.trans ?_ (KeptE.below (by assumption)) | refine KeptE.trans ?_ (by assumption)))) ?_; clear HK_)
              (refine z_quiet (by simp only [List.getElem?_toArray, List.getElem?_cons_succ, List.getElem?_cons_zero]; rfl) (by rfl) (by rfl) (fun K_ hK_ => ?_); go_big_quiet_op; refine hK_ _ ?_; clear hK_ K_)
              (refine z_last (by simp only [List.getElem?_toArray, List.getElem?_cons_succ, List.getElem?_cons_zero]; rfl) (by rfl) (by rfl) (by rfl) (fun K_ hK_ => ?_); have HK_ := Lib.hid hK_; clear hK_; (first | ((refine wpAppO _ _ 34 rfl g11 3 (.int .i64 0) 1 8 Try.underlying34 ints_info rfl (by decide) _ q (intsV zs) rfl (owns_below HZ.out (balloc (bdrew1 (brefl wv)) _) (Nat.le_refl _)) ⟨wv.heap.size, 0, none⟩ 1 1 (intsV [(S : Int)]) rfl rfl (has_alloc _ _ _) (fun u hu => by simp [intsV] at hu; subst hu; rfl) (by unfold maxLen; omega) (by omega) (by simp; omega) ?_; intro a9 c9 w9 hown9 k91 k92 k93 hb9 hg9; have hk9 := KeptE.grown (owns_below HZ.out (balloc (bdrew1 (brefl wv)) _) (Nat.le_refl _)) hg9; have hkw : KeptE 3 wv w9 := ((KeptE.below (bdrew1 (brefl wv))).trans (KeptE.below (balloc (brefl _) _))).trans hk9; have h119 := (hkw.2 g11 _ _ _ h11 (by decide)).trans h11; have q9 := fun o => cell_of_heap h119 o; have f9 := fun o => froz_of_heap h119 o; have l9 := (Array.getElem?_eq_some_iff.1 h119).1; have HO9 := Lib.hid hown9; have HB9 := Lib.hid ((((Below.refl g11 wv).drew).alloc (by simp; omega) _).trans hb9); clear hown9 k91 k92 k93 hb9 hg9; (try dsimp only [Act.put]); (try simp only [List.setIfInBounds_toArray, List.set_cons_succ, List.set_cons_zero]))) | (go_wp2_with ((go_at_call 39; (with_reducible refine (HUS.out _ (by omega) _ (bdrew1 HBW.out)).mono ?_); rintro e w_ ⟨rfl, rfl⟩)))); refine HK_.out _ _ ?_; clear HK_)
              refine z_nil ?_
              clear hK0_
              go_wp2_with fail
              go_roundw
              case rel => exact ⟨q + 1, a9, c9, zs ++ [(S : Int)], hltq, by go_num, set_heap_at (o := 3) (.slice a9 (q + 1) c9) h119, by rw [intsV_app]; exact set_owns _ HO9.out (own_neE HO9.out h119 (by decide)), by rw [List.length_append, HZL.out]; rfl, bset (HBV.out.trans (HG.out ▸ HB9.out)) (p := ⟨g11, 3, none⟩) (by show wr.heap.size ≤ g11; rw [HG.out]; exact Nat.le_refl _) _⟩
              case measure => simp [intOf]; omega
            · obtain rfl : M = q := by omega
              by_cases hbit : L / 16384 % 2 = 1
              · have b1 : ((L : Int) / 16384 % 2 == 1) = true := by rw [beq_iff_eq]; omega
                obtain ⟨fi, hfi⟩ : ∃ fi, fi = L % 256 := ⟨_, rfl⟩
                have b2 : (L : Int) % 256 = (fi : Int) := by omega
                clear hbit hfi
                cases x with
                | false =>
                  have HXB := Lib.hid HBV.out
                  have hzw2 := HBW.out.size
 
                  go_wp2_with (at_builtin; refine wpApp rfl _ _ 46 rfl w.heap.size 74 (.agg #[.int .i64 0, .bool false, .int .i64 0, .slice none 0 0]) 4 48 Try.underlying46 featR_info rfl (by decide) _ k (fents fs) rfl (owns_below HO.out (balloc HXB.out _) (Nat.le_refl _)) (some ⟨wv.heap.size, 0, none⟩) 1 1 (fents [⟨T, false, (-1), .slice aS M cS⟩]) rfl rfl (has_alloc _ _ _) (fun h => by cases h) (fun u hu => by simp [fents, FEnt.enc] at hu; rcases hu with rfl | rfl | rfl | rfl <;> rfl) (by unfold maxLen; omega) (by omega) (by simp only [World.size_alloc]; omega) ?_; intro a7 c7 w7 hown7 _ _ _ hb7 _; rw [← fents_app] at hown7; have HO7 := Lib.hid hown7; have HB7 := Lib.hid ((((HB.out.trans (HXB.out.mono hzr)).alloc (hzw2) _)).trans hb7); clear hown7 hb7; (try dsimp only [Act.put]); (try simp only [List.setIfInBounds_toArray, List.set_cons_succ, List.set_cons_zero]))
                  go_roundw
                  case rel => exact ⟨k + 1, a7, c7, fs ++ [⟨T, false, (-1), .slice aS M cS⟩], hlt, by go_num, rfl, HO7.out, by rw [List.length_append, HFL.out]; rfl, tyEx_snoc HTY.out (by rw [HFL.out]; exact HTD.out.symm) (by rw [HFL.out]; exact HDX.out.symm), HRN.out, HB7.out⟩
                  case measure => simp [intOf]; omega
                | true =>
                  by_cases hfm : fi < M
                  · obtain ⟨z, hz⟩ : ∃ z, zs[fi]? = some z := ⟨_, List.getElem?_eq_getElem (by rw [HZL.out]; exact hfm)⟩
                    obtain ⟨p, hp, hc⟩ := has_of_owns HZ.out fi (.int .i64 z) (by simp [intsV, hz])
                    subst hp
                    have HXB := Lib.hid (show Below wr.heap.size wr (wv.setCell ⟨g11, 2, none⟩ (.int .i64 z)) from bset HBV.out (p := ⟨g11, 2, none⟩) (by show wr.heap.size ≤ g11; rw [HG.out]; exact Nat.le_refl _) _)
                    have hzw2 := HBW.out.size
                    have hzs : (wv.setCell ⟨g11, 2, none⟩ (.int .i64 z)).heap.size = wv.heap.size := by simp [World.setCell]
                    have HZS := Lib.hid hzs
                    clear hz hzs
                    go_wp2_with (at_builtin; refine wpApp rfl _ _ 46 rfl w.heap.size 74 (.agg #[.int .i64 0, .bool false, .int .i64 0, .slice none 0 0]) 4 48 Try.underlying46 featR_info rfl (by decide) _ k (fents fs) rfl (owns_below HO.out (balloc HXB.out _) (Nat.le_refl _)) (some ⟨wv.heap.size, 0, none⟩) 1 1 (fents [⟨T, true, z, .slice (some p) M cS⟩]) rfl rfl (by have := has_alloc (wv.setCell ⟨g11, 2, none⟩ (.int .i64 z)) #[.int .i64 (T : Nat), .bool true, .int .i64 z, .slice (some p) M cS] 74; rw [HZS.out] at this; exact this) (fun h => by cases h) (fun u hu => by simp [fents, FEnt.enc] at hu; rcases hu with rfl | rfl | rfl | rfl <;> rfl) (by unfold maxLen; omega) (by omega) (by first | omega | (simp only [World.size_alloc]; have := HZS.out; omega)) ?_; intro a7 c7 w7 hown7 _ _ _ hb7 _; rw [← fents_app] at hown7; have HO7 := Lib.hid hown7; have HB7 := Lib.hid ((((HB.out.trans (HXB.out.mono hzr)).alloc (by have := HZS.out; omega) _)).trans hb7); clear hown7 hb7; (try dsimp only [Act.put]); (try simp only [List.setIfInBounds_toArray, List.set_cons_succ, List.set_cons_zero]))
                    go_roundw
                    case rel => exact ⟨k + 1, a7, c7, fs ++ [⟨T, true, z, .slice (some p) M cS⟩], hlt, by go_num, rfl, HO7.out, by rw [List.length_append, HFL.out]; rfl, tyEx_snoc HTY.out (by rw [HFL.out]; exact HTD.out.symm) (by rw [HFL.out]; exact HDX.out.symm), HRN.out, HB7.out⟩
                    case measure => simp [intOf]; omega
                  · have e3 : decide ((fi : Int) < (M : Int)) = false := by simp; omega
                    have e4 : decide (fi < M) = false := by simp; omega
                    have HXB := Lib.hid HBV.out
                    have hzw2 := HBW.out.size
 
                    go_wp2_with (at_builtin; refine wpApp rfl _ _ 46 rfl w.heap.size 74 (.agg #[.int .i64 0, .bool false, .int .i64 0, .slice none 0 0]) 4 48 Try.underlying46 featR_info rfl (by decide) _ k (fents fs) rfl (owns_below HO.out (balloc HXB.out _) (Nat.le_refl _)) (some ⟨wv.heap.size, 0, none⟩) 1 1 (fents [⟨T, true, (-1), .slice aS M cS⟩]) rfl rfl (has_alloc _ _ _) (fun h => by cases h) (fun u hu => by simp [fents, FEnt.enc] at hu; rcases hu with rfl | rfl | rfl | rfl <;> rfl) (by unfold maxLen; omega) (by omega) (by simp only [World.size_alloc]; omega) ?_; intro a7 c7 w7 hown7 _ _ _ hb7 _; rw [← fents_app] at hown7; have HO7 := Lib.hid hown7; have HB7 := Lib.hid ((((HB.out.trans (HXB.out.mono hzr)).alloc (hzw2) _)).trans hb7); clear hown7 hb7; (try dsimp only [Act.put]); (try simp only [List.setIfInBounds_toArray, List.set_cons_succ, List.set_cons_zero]))
                    go_roundw
                    case rel => exact ⟨k + 1, a7, c7, fs ++ [⟨T, true, (-1), .slice aS M cS⟩], hlt, by go_num, rfl, HO7.out, by rw [List.length_append, HFL.out]; rfl, tyEx_snoc HTY.out (by rw [HFL.out]; exact HTD.out.symm) (by rw [HFL.out]; exact HDX.out.symm), HRN.out, HB7.out⟩
                    case measure => simp [intOf]; omega
              · have b1 : ((L : Int) / 16384 % 2 == 1) = false := by rw [beq_eq_false_iff_ne]; omega
                clear hbit
                cases x with
                | false =>
                  have HXB := Lib.hid HBV.out
                  have hzw2 := HBW.out.size
 
                  go_wp2_with (at_builtin; refine wpApp rfl _ _ 46 rfl w.heap.size 74 (.agg #[.int .i64 0, .bool false, .int .i64 0, .slice none 0 0]) 4 48 Try.underlying46 featR_info rfl (by decide) _ k (fents fs) rfl (owns_below HO.out (balloc HXB.out _) (Nat.le_refl _)) (some ⟨wv.heap.size, 0, none⟩) 1 1 (fents [⟨T, false, (-1), .slice aS M cS⟩]) rfl rfl (has_alloc _ _ _) (fun h => by cases h) (fun u hu => by simp [fents, FEnt.enc] at hu; rcases hu with rfl | rfl | rfl | rfl <;> rfl) (by unfold maxLen; omega) (by omega) (by simp only [World.size_alloc]; omega) ?_; intro a7 c7 w7 hown7 _ _ _ hb7 _; rw [← fents_app] at hown7; have HO7 := Lib.hid hown7; have HB7 := Lib.hid ((((HB.out.trans (HXB.out.mono hzr)).alloc (hzw2) _)).trans hb7); clear hown7 hb7; (try dsimp only [Act.put]); (try simp only [List.setIfInBounds_toArray, List.set_cons_succ, List.set_cons_zero]))
                  go_roundw
                  case rel => exact ⟨k + 1, a7, c7, fs ++ [⟨T, false, (-1), .slice aS M cS⟩], hlt, by go_num, rfl, HO7.out, by rw [List.length_append, HFL.out]; rfl, tyEx_snoc HTY.out (by rw [HFL.out]; exact HTD.out.symm) (by rw [HFL.out]; exact HDX.out.symm), HRN.out, HB7.out⟩
                  case measure => simp [intOf]; omega
                | true =>
                  by_cases hfm : 0 < M
                  · obtain ⟨z, hz⟩ : ∃ z, zs[0]? = some z := ⟨_, List.getElem?_eq_getElem (by rw [HZL.out]; exact hfm)⟩
                    obtain ⟨p, hp, hc⟩ := has_of_owns HZ.out 0 (.int .i64 z) (by simp [intsV, hz])
                    subst hp
                    have hc0 : wv.cell? p = some (.int .i64 z) := by simpa [Addr.add] using hc
                    have HXB := Lib.hid (show Below wr.heap.size wr (wv.setCell ⟨g11, 2, none⟩ (.int .i64 z)) from bset HBV.out (p := ⟨g11, 2, none⟩) (by show wr.heap.size ≤ g11; rw [HG.out]; exact Nat.le_refl _) _)
                    have hzw2 := HBW.out.size
                    have hzs : (wv.setCell ⟨g11, 2, none⟩ (.int .i64 z)).heap.size = wv.heap.size := by simp [World.setCell]
                    have HZS := Lib.hid hzs
                    clear hz hzs
                    go_wp2_with (at_builtin; refine wpApp rfl _ _ 46 rfl w.heap.size 74 (.agg #[.int .i64 0, .bool false, .int .i64 0, .slice none 0 0]) 4 48 Try.underlying46 featR_info rfl (by decide) _ k (fents fs) rfl (owns_below HO.out (balloc HXB.out _) (Nat.le_refl _)) (some ⟨wv.heap.size, 0, none⟩) 1 1 (fents [⟨T, true, z, .slice (some p) M cS⟩]) rfl rfl (by have := has_alloc (wv.setCell ⟨g11, 2, none⟩ (.int .i64 z)) #[.int .i64 (T : Nat), .bool true, .int .i64 z, .slice (some p) M cS] 74; rw [HZS.out] at this; exact this) (fun h => by cases h) (fun u hu => by simp [fents, FEnt.enc] at hu; rcases hu with rfl | rfl | rfl | rfl <;> rfl) (by unfold maxLen; omega) (by omega) (by first | omega | (simp only [World.size_alloc]; have := HZS.out; omega)) ?_; intro a7 c7 w7 hown7 _ _ _ hb7 _; rw [← fents_app] at hown7; have HO7 := Lib.hid hown7; have HB7 := Lib.hid ((((HB.out.trans (HXB.out.mono hzr)).alloc (by have := HZS.out; omega) _)).trans hb7); clear hown7 hb7; (try dsimp only [Act.put]); (try simp only [List.setIfInBounds_toArray, List.set_cons_succ, List.set_cons_zero]))
                    go_roundw
                    case rel => exact ⟨k + 1, a7, c7, fs ++ [⟨T, true, z, .slice (some p) M cS⟩], hlt, by go_num, rfl, HO7.out, by rw [List.length_append, HFL.out]; rfl, tyEx_snoc HTY.out (by rw [HFL.out]; exact HTD.out.symm) (by rw [HFL.out]; exact HDX.out.symm), HRN.out, HB7.out⟩
                    case measure => simp [intOf]; omega
                  · have e3 : decide ((0 : Int) < (M : Int)) = false := by simp; omega
                    have e4 : decide (0 < M) = false := by simp; omega
                    have HXB := Lib.hid HBV.out
                    have hzw2 := HBW.out.size
 
                    go_wp2_with (at_builtin; refine wpApp rfl _ _ 46 rfl w.heap.size 74 (.agg #[.int .i64 0, .bool false, .int .i64 0, .slice none 0 0]) 4 48 Try.underlying46 featR_info rfl (by decide) _ k (fents fs) rfl (owns_below HO.out (balloc HXB.out _) (Nat.le_refl _)) (some ⟨wv.heap.size, 0, none⟩) 1 1 (fents [⟨T, true, (-1), .slice aS M cS⟩]) rfl rfl (has_alloc _ _ _) (fun h => by cases h) (fun u hu => by simp [fents, FEnt.enc] at hu; rcases hu with rfl | rfl | rfl | rfl <;> rfl) (by unfold maxLen; omega) (by omega) (by simp only [World.size_alloc]; omega) ?_; intro a7 c7 w7 hown7 _ _ _ hb7 _; rw [← fents_app] at hown7; have HO7 := Lib.hid hown7; have HB7 := Lib.hid ((((HB.out.trans (HXB.out.mono hzr)).alloc (hzw2) _)).trans hb7); clear hown7 hb7; (try dsimp only [Act.put]); (try simp only [List.setIfInBounds_toArray, List.set_cons_succ, List.set_cons_zero]))
                    go_roundw
                    case rel => exact ⟨k + 1, a7, c7, fs ++ [⟨T, true, (-1), .slice aS M cS⟩], hlt, by go_num, rfl, HO7.out, by rw [List.length_append, HFL.out]; rfl, tyEx_snoc HTY.out (by rw [HFL.out]; exact HTD.out.symm) (by rw [HFL.out]; exact HDX.out.symm), HRN.out, HB7.out⟩
                    case measure => simp [intOf]; omega
    · obtain rfl : N = k := by omega
      go_wp2_with fail
      go_ret2
      exact ⟨.inl ⟨HRI.out, a', c', fs, rfl, has_of_owns HO.out, HFL.out, HTY.out⟩, HB.out⟩
end Go.Proofs.Ytfnghinefbmlmaa
