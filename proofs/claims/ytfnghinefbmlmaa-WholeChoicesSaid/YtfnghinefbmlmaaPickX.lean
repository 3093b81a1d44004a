
/- Package pick: Flags, the code's and the document's. Conditions: as each says. -/
import Derived.Test.YtfnghinefbmlmaaPickW
namespace Go.Proofs.Ytfnghinefbmlmaa
open Go.RowKit Go.Lib

structure RuleV where
  s : St
  en : Int
  di : Int
def RuleV.enc (r : RuleV) : List Value := [.int .i64 r.s.1, .int .i64 r.s.2, .int .u32 r.en, .int .u32 r.di]
def ruV (rs : List RuleV) : List Value := rs.flatMap RuleV.enc
theorem ruV_get : ∀ (rs : List RuleV) (k : Nat) (r : RuleV), rs[k]? = some r → ∀ o, o < 4 → (ruV rs)[k * 4 + o]? = r.enc[o]?
  | [], _, _, h, _, _ => by simp at h
  | x :: fs, 0, p, h, o, ho => by
    simp at h; subst h
    show (x.enc ++ ruV fs)[0 * 4 + o]? = _
    rw [Nat.zero_mul, Nat.zero_add, List.getElem?_append_left (by simpa [RuleV.enc] using ho)]
  | x :: fs, k + 1, p, h, o, ho => by
    have := ruV_get fs k p (by simpa using h) o ho
    show (x.enc ++ ruV fs)[(k + 1) * 4 + o]? = _
    rw [List.getElem?_append_right (by simp [RuleV.enc]; omega), show (k + 1) * 4 + o - (x.enc).length = k * 4 + o by simp [RuleV.enc]; omega, this]
theorem ruV_length (rs : List RuleV) : (ruV rs).length = rs.length * 4 := by
  induction rs with
  | nil => rfl
  | cons x l ih => show (x.enc ++ ruV l).length = _; rw [List.length_append, ih, List.length_cons]; simp [RuleV.enc]; omega
theorem ru_cells {w : World} {a : Option Addr} {fs : List RuleV} (h : Has w a (ruV fs)) {k : Nat} {f : RuleV} (hf : fs[k]? = some f) :
    ∃ b o, a = some ⟨b, o, none⟩ ∧ b < w.heap.size ∧ w.cell? ⟨b, o + k * 4, none⟩ = some (.int .i64 f.s.1) ∧ w.cell? ⟨b, o + k * 4 + 1, none⟩ = some (.int .i64 f.s.2) ∧ w.cell? ⟨b, o + k * 4 + 2, none⟩ = some (.int .u32 f.en) ∧ w.cell? ⟨b, o + k * 4 + 3, none⟩ = some (.int .u32 f.di) := by
  have g0 := ruV_get fs k f hf 0 (by omega)
  obtain ⟨b, o, rfl, hb, hc⟩ := h.get (by
    rcases Nat.eq_zero_or_pos (ruV fs).length with g | g
    · rw [List.getElem?_eq_none (by omega)] at g0
      simp [RuleV.enc] at g0
    · exact g)
  refine ⟨b, o, rfl, hb, hc (k * 4) _ g0, ?_, ?_, ?_⟩
  · have := hc (k * 4 + 1) _ (ruV_get fs k f hf 1 (by omega)); rwa [← Nat.add_assoc] at this
  · have := hc (k * 4 + 2) _ (ruV_get fs k f hf 2 (by omega)); rwa [← Nat.add_assoc] at this
  · have := hc (k * 4 + 3) _ (ruV_get fs k f hf 3 (by omega)); rwa [← Nat.add_assoc] at this
structure RuOk (w : World) (a : Option Addr) (n c : Nat) (rs : List RuleV) : Prop where
  has : Has w a (ruV rs)
  len : rs.length = n
  small : n ≤ 10000
  wf : ∀ r ∈ rs, wfS r.s
theorem RuOk.below {w w' : World} {a : Option Addr} {n c : Nat} {rs : List RuleV} (h : RuOk w a n c rs) (hb : Below w.heap.size w w') : RuOk w' a n c rs := ⟨h.has.below hb, h.len, h.small, h.wf⟩
def andOr (x : Int) (r : RuleV) : Int := bits BinOp.or IntKind.u32 (bits BinOp.and IntKind.u32 x r.di) r.en
/-- A chain's flags, by what is on. -/
def flagsF (p : St → Bool) (first : Int) (rs : List RuleV) : Int := rs.foldl (fun f r => if p r.s then andOr f r else f) first
theorem flagsF_snoc (p : St → Bool) (first : Int) (rs : List RuleV) (r : RuleV) : flagsF p first (rs ++ [r]) = if p r.s then andOr (flagsF p first rs) r else flagsF p first rs := by simp [flagsF]
set_option maxRecDepth 100000 in
set_option maxHeartbeats 2000000 in
theorem flags_any (first : Int) (ra : Option Addr) (rn rc : Nat) (rs : List RuleV) (a : Option Addr) (n c : Nat) (l : List St) (ex : Int → Bool) (on : List St) (w : World) (h : RuOk w ra rn rc rs) (hs : SetOk w a n c l) (hr : SetS ex on l) :
    Calls Try.prog 22 #[.int .u32 first, .slice ra rn rc, .slice a n c] w fun e w' => e = .returned (.int .u32 (flagsF (onS ex on) first rs)) ∧ Below w.heap.size w w' := by
  have hAC := allocC
  have hAF := allocF
  have HH := Lib.hid h
  have HS := Lib.hid hs
  have HR := Lib.hid hr
  have hrn := h.small
  clear h hs hr
  go_enter Try.func22, Try.ntmps22
  go_wp2_with fail
  go_loopw [7, 13] (fun f i wr => ∃ k : Nat, k ≤ rn ∧ i = .int .i64 (k : Nat) ∧ f = .int .u32 (flagsF (onS ex on) first (rs.take k)) ∧ Below w.heap.size w wr) (fun _ i _ => rn - (intOf i).toNat)
  case atStart => exact ⟨0, Nat.zero_le _, rfl, rfl, blw⟩
  case round =>
    obtain ⟨k, hk, rfl, rfl, hb⟩ := hrel
    have HB := Lib.hid hb
    by_cases hlt : k < rn
    · obtain ⟨r, hr⟩ : ∃ r, rs[k]? = some r := ⟨_, List.getElem?_eq_getElem (by rw [HH.out.len]; exact hlt)⟩
      have HSN := Lib.hid (show flagsF (onS ex on) first (rs.take (k + 1)) = if onS ex on r.s then andOr (flagsF (onS ex on) first (rs.take k)) r else flagsF (onS ex on) first (rs.take k) from by rw [take_snoc hr, flagsF_snoc])
      obtain ⟨b, o, ha, hbl, c0, c1, c2, c3⟩ := ru_cells (HH.out.has.below HB.out) hr
      subst ha
      have HO := Lib.hid (fun W (hW : Below w.heap.size w W) => on_any a n c l r.s W (HS.out.below hW) HR.out.1 (onS ex on r.s) (set_on HR.out r.s))
      generalize flagsF (onS ex on) first (rs.take k) = x at *
      clear hr
      cases hon : onS ex on r.s with
      | true =>
        rw [hon] at HO
        rw [hon, if_pos rfl] at HSN
        clear hon
        go_wp2_with (go_at_call 19; (with_reducible refine (HO.out _ (by exact blw)).mono ?_); rintro e w1 ⟨rfl, hb1⟩; have hb1c := bc hb1; have hb1f := bf hb1; have hb1z := hb1.size; (try simp only [World.size_alloc, World.size_drew] at hb1z))
        go_roundw
        case rel => exact ⟨k + 1, hlt, by go_num, by rw [HSN.out]; rfl, blw⟩
        case measure => simp [intOf]; omega
      | false =>
        rw [hon] at HO
        rw [hon, if_neg (by decide)] at HSN
        clear hon
        go_wp2_with (go_at_call 19; (with_reducible refine (HO.out _ (by exact blw)).mono ?_); rintro e w1 ⟨rfl, hb1⟩; have hb1c := bc hb1; have hb1f := bf hb1; have hb1z := hb1.size; (try simp only [World.size_alloc, World.size_drew] at hb1z))
        go_roundw
        case rel => exact ⟨k + 1, hlt, by go_num, by rw [HSN.out], blw⟩
        case measure => simp [intOf]; omega
    · obtain rfl : rn = k := by omega
      have hall : rs.take rn = rs := List.take_of_length_le (by rw [HH.out.len]; exact Nat.le_refl _)
      rw [hall]
      clear hall
      go_wp2_with fail
      go_ret
      exact ⟨rfl, HB.out⟩
set_option maxRecDepth 100000 in
set_option maxHeartbeats 2000000 in
theorem flagsR_any (first : Int) (ra : Option Addr) (rn rc : Nat) (rs : List RuleV) (a : Option Addr) (n c : Nat) (l : List St) (fa : Option Addr) (fn fc : Nat) (fs : List FEnt) (ex : Int → Bool) (w : World) (h : RuOk w ra rn rc rs) (hs : SetOk w a n c l) (hf : RfOk w fa fn fc fs ex) :
    Calls Try.prog 23 #[.int .u32 first, .slice ra rn rc, .slice a n c, .slice fa fn fc] w fun e w' => e = .returned (.int .u32 (flagsF (onS ex l) first rs)) ∧ Below w.heap.size w w' := by
  have hAC := allocC
  have hAF := allocF
  have HH := Lib.hid h
  have HS := Lib.hid hs
  have HF := Lib.hid hf
  have hrn := h.small
  clear h hs hf
  go_enter Try.func23, Try.ntmps23
  go_wp2_with fail
  go_loopw [0, 9] (fun f i wr => ∃ k : Nat, k ≤ rn ∧ i = .int .i64 (k : Nat) ∧ f = .int .u32 (flagsF (onS ex l) first (rs.take k)) ∧ Below w.heap.size w wr) (fun _ i _ => rn - (intOf i).toNat)
  case atStart => exact ⟨0, Nat.zero_le _, rfl, rfl, blw⟩
  case round =>
    obtain ⟨k, hk, rfl, rfl, hb⟩ := hrel
    have HB := Lib.hid hb
    by_cases hlt : k < rn
    · obtain ⟨r, hr⟩ : ∃ r, rs[k]? = some r := ⟨_, List.getElem?_eq_getElem (by rw [HH.out.len]; exact hlt)⟩
      have HSN := Lib.hid (show flagsF (onS ex l) first (rs.take (k + 1)) = if onS ex l r.s then andOr (flagsF (onS ex l) first (rs.take k)) r else flagsF (onS ex l) first (rs.take k) from by rw [take_snoc hr, flagsF_snoc])
      obtain ⟨b, o, ha, hbl, c0, c1, c2, c3⟩ := ru_cells (HH.out.has.below HB.out) hr
      subst ha
      have HO := Lib.hid (fun W (hW : Below wr.heap.size wr W) => onR_any a n c l fa fn fc fs ex r.s W ((HS.out.below HB.out).below hW) ((HF.out.below HB.out).below hW) (HH.out.wf r (List.mem_of_getElem? hr)))
      generalize flagsF (onS ex l) first (rs.take k) = x at *
      clear hr hb
      cases hon : onS ex l r.s with
      | true =>
        rw [hon] at HO
        rw [hon, if_pos rfl] at HSN
        clear hon
        go_wp2_with fail
        refine wp_region_tree (.step 0 (.step 1 (.step 2 (.step 3 (.step 4 (.step 5 (.step 6 (.step 7 (.step 8 (.step 9 (.step 10 (.step 11 (.step 12 (.step 13 .nil)))))))))))))) (by kernel_rfl) (by kernel_rfl) (by kernel_rfl) (by kernel_rfl) (by intro _ _ d_ _ _ h_; cases d_ <;> first | exact h_ | (dsimp +zetaDelta only at h_ ⊢; exact h_)) (fun w' => ∃ p : Wld wr [], w' = p.val) (wld_start _ _) ?_
        have hG_ := @wldC wr
        (refine tree_quiet (by simp only [List.getElem?_toArray, List.getElem?_cons_succ, List.getElem?_cons_zero]; rfl) (by rfl) (by rfl) (fun K_ hK_ => ?_); go_big_quiet_op; refine hK_ _ ?_; clear hK_ K_)
        (refine tree_quiet (by simp only [List.getElem?_toArray, List.getElem?_cons_succ, List.getElem?_cons_zero]; rfl) (by rfl) (by rfl) (fun K_ hK_ => ?_); go_big_quiet_op; refine hK_ _ ?_; clear hK_ K_)
        (refine tree_quiet (by simp only [List.getElem?_toArray, List.getElem?_cons_succ, List.getElem?_cons_zero]; rfl) (by rfl) (by rfl) (fun K_ hK_ => ?_); go_big_quiet_op; refine hK_ _ ?_; clear hK_ K_)
        (refine tree_quiet (by simp only [List.getElem?_toArray, List.getElem?_cons_succ, List.getElem?_cons_zero]; rfl) (by rfl) (by rfl) (fun K_ hK_ => ?_); go_big_quiet_op; refine hK_ _ ?_; clear hK_ K_)
        (refine tree_quiet (by simp only [List.getElem?_toArray, List.getElem?_cons_succ, List.getElem?_cons_zero]; rfl) (by rfl) (by rfl) (fun K_ hK_ => ?_); go_big_quiet_op; refine hK_ _ ?_; clear hK_ K_)
        (refine tree_quiet (by simp only [List.getElem?_toArray, List.getElem?_cons_succ, List.getElem?_cons_zero]; rfl) (by rfl) (by rfl) (fun K_ hK_ => ?_); go_big_quiet_op; refine hK_ _ ?_; clear hK_ K_)
        (refine tree_quiet (by simp only [List.getElem?_toArray, List.getElem?_cons_succ, List.getElem?_cons_zero]; rfl) (by rfl) (by rfl) (fun K_ hK_ => ?_); go_big_quiet_op; refine hK_ _ ?_; clear hK_ K_)
        (refine tree_quiet (by simp only [List.getElem?_toArray, List.getElem?_cons_succ, List.getElem?_cons_zero]; rfl) (by rfl) (by rfl) (fun K_ hK_ => ?_); go_big_quiet_op; refine hK_ _ ?_; clear hK_ K_)
        (refine tree_quiet (by simp only [List.getElem?_toArray, List.getElem?_cons_succ, List.getElem?_cons_zero]; rfl) (by rfl) (by rfl) (fun K_ hK_ => ?_); go_big_quiet_op; refine hK_ _ ?_; clear hK_ K_)
        (refine tree_quiet (by simp only [List.getElem?_toArray, List.getElem?_cons_succ, List.getElem?_cons_zero]; rfl) (by rfl) (by rfl) (fun K_ hK_ => ?_); go_big_quiet_op; refine hK_ _ ?_; clear hK_ K_)
        (refine tree_quiet (by simp only [List.getElem?_toArray, List.getElem?_cons_succ, List.getElem?_cons_zero]; rfl) (by rfl) (by rfl) (fun K_ hK_ => ?_); go_big_quiet_op; refine hK_ _ ?_; clear hK_ K_)
        (refine tree_quiet (by simp only [List.getElem?_toArray, List.getElem?_cons_succ, List.getElem?_cons_zero]; rfl) (by rfl) (by rfl) (fun K_ hK_ => ?_); go_big_quiet_op; refine hK_ _ ?_; clear hK_ K_)
        (refine tree_quiet (by simp only [List.getElem?_toArray, List.getElem?_cons_succ, List.getElem?_cons_zero]; rfl) (by rfl) (by rfl) (fun K_ hK_ => ?_); go_big_quiet_op; refine hK_ _ ?_; clear hK_ K_)
        (refine tree_run (by simp only [List.getElem?_toArray, List.getElem?_cons_succ, List.getElem?_cons_zero]; rfl) (by rfl) (by rfl) (fun K_ hK_ => ?_); have HK_ := Lib.hid hK_; clear hK_; go_wp2_with ((go_at_call 18; (with_reducible refine (HO.out _ (by exact blw)).mono ?_); rintro e w5 ⟨rfl, hb5⟩; have h5c := bc hb5; have h5f := bf hb5; have h5z := hb5.size; try simp only [World.size_alloc, World.size_drew] at h5z)); refine HK_.out _ _ (wld_ofA) ?_; clear HK_)
        refine tree_nil ?_
        clear hG_
        go_wp2_with fail
        refine wp_region_tree (.step 0 (.step 1 (.step 2 (.step 3 (.step 4 (.step 5 (.step 6 (.step 7 (.step 8 (.step 9 (.step 10 (.step 11 (.step 12 (.step 13 .nil)))))))))))))) (by kernel_rfl) (by kernel_rfl) (by kernel_rfl) (by kernel_rfl) (by intro _ _ d_ _ _ h_; cases d_ <;> first | exact h_ | (dsimp +zetaDelta only at h_ ⊢; exact h_)) (fun w' => ∃ p : Wld w5 [], w' = p.val) (wld_start _ _) ?_
        have hG_ := @wldC w5
        (refine tree_quiet (by simp only [List.getElem?_toArray, List.getElem?_cons_succ, List.getElem?_cons_zero]; rfl) (by rfl) (by rfl) (fun K_ hK_ => ?_); go_big_quiet_op; refine hK_ _ ?_; clear hK_ K_)
        (refine tree_quiet (by simp only [List.getElem?_toArray, List.getElem?_cons_succ, List.getElem?_cons_zero]; rfl) (by rfl) (by rfl) (fun K_ hK_ => ?_); go_big_quiet_op; refine hK_ _ ?_; clear hK_ K_)
        (refine tree_quiet (by simp only [List.getElem?_toArray, List.getElem?_cons_succ, List.getElem?_cons_zero]; rfl) (by rfl) (by rfl) (fun K_ hK_ => ?_); go_big_quiet_op; refine hK_ _ ?_; clear hK_ K_)
        (refine tree_quiet (by simp only [List.getElem?_toArray, List.getElem?_cons_succ, List.getElem?_cons_zero]; rfl) (by rfl) (by rfl) (fun K_ hK_ => ?_); go_big_quiet_op; refine hK_ _ ?_; clear hK_ K_)
        (refine tree_quiet (by simp only [List.getElem?_toArray, List.getElem?_cons_succ, List.getElem?_cons_zero]; rfl) (by rfl) (by rfl) (fun K_ hK_ => ?_); go_big_quiet_op; refine hK_ _ ?_; clear hK_ K_)
        (refine tree_quiet (by simp only [List.getElem?_toArray, List.getElem?_cons_succ, List.getElem?_cons_zero]; rfl) (by rfl) (by rfl) (fun K_ hK_ => ?_); go_big_quiet_op; refine hK_ _ ?_; clear hK_ K_)
        (refine tree_quiet (by simp only [List.getElem?_toArray, List.getElem?_cons_succ, List.getElem?_cons_zero]; rfl) (by rfl) (by rfl) (fun K_ hK_ => ?_); go_big_quiet_op; refine hK_ _ ?_; clear hK_ K_)
        (refine tree_quiet (by simp only [List.getElem?_toArray, List.getElem?_cons_succ, List.getElem?_cons_zero]; rfl) (by rfl) (by rfl) (fun K_ hK_ => ?_); go_big_quiet_op; refine hK_ _ ?_; clear hK_ K_)
        (refine tree_quiet (by simp only [List.getElem?_toArray, List.getElem?_cons_succ, List.getElem?_cons_zero]; rfl) (by rfl) (by rfl) (fun K_ hK_ => ?_); go_big_quiet_op; refine hK_ _ ?_; clear hK_ K_)
        (refine tree_quiet (by simp only [List.getElem?_toArray, List.getElem?_cons_succ, List.getElem?_cons_zero]; rfl) (by rfl) (by rfl) (fun K_ hK_ => ?_); go_big_quiet_op; refine hK_ _ ?_; clear hK_ K_)
        (refine tree_quiet (by simp only [List.getElem?_toArray, List.getElem?_cons_succ, List.getElem?_cons_zero]; rfl) (by rfl) (by rfl) (fun K_ hK_ => ?_); go_big_quiet_op; refine hK_ _ ?_; clear hK_ K_)
        (refine tree_quiet (by simp only [List.getElem?_toArray, List.getElem?_cons_succ, List.getElem?_cons_zero]; rfl) (by rfl) (by rfl) (fun K_ hK_ => ?_); go_big_quiet_op; refine hK_ _ ?_; clear hK_ K_)
        (refine tree_quiet (by simp only [List.getElem?_toArray, List.getElem?_cons_succ, List.getElem?_cons_zero]; rfl) (by rfl) (by rfl) (fun K_ hK_ => ?_); go_big_quiet_op; refine hK_ _ ?_; clear hK_ K_)
        (refine tree_quiet (by simp only [List.getElem?_toArray, List.getElem?_cons_succ, List.getElem?_cons_zero]; rfl) (by rfl) (by rfl) (fun K_ hK_ => ?_); go_big_quiet_op; refine hK_ _ ?_; clear hK_ K_)
        refine tree_nil ?_
        clear hG_
        go_wp2_with fail
        go_roundw
        case rel => exact ⟨k + 1, hlt, by go_num, by rw [HSN.out]; rfl, bdrew1 (bthen (bdrew1 HB.out) hb5)⟩
        case measure => simp [intOf]; omega
      | false =>
        rw [hon] at HO
        rw [hon, if_neg (by decide)] at HSN
        clear hon
        go_wp2_with fail
        refine wp_region_tree (.step 0 (.step 1 (.step 2 (.step 3 (.step 4 (.step 5 (.step 6 (.step 7 (.step 8 (.step 9 (.step 10 (.step 11 (.step 12 (.step 13 .nil)))))))))))))) (by kernel_rfl) (by kernel_rfl) (by kernel_rfl) (by kernel_rfl) (by intro _ _ d_ _ _ h_; cases d_ <;> first | exact h_ | (dsimp +zetaDelta only at h_ ⊢; exact h_)) (fun w' => ∃ p : Wld wr [], w' = p.val) (wld_start _ _) ?_
        have hG_ := @wldC wr
        (refine tree_quiet (by simp only [List.getElem?_toArray, List.getElem?_cons_succ, List.getElem?_cons_zero]; rfl) (by rfl) (by rfl) (fun K_ hK_ => ?_); go_big_quiet_op; refine hK_ _ ?_; clear hK_ K_)
        (refine tree_quiet (by simp only [List.getElem?_toArray, List.getElem?_cons_succ, List.getElem?_cons_zero]; rfl) (by rfl) (by rfl) (fun K_ hK_ => ?_); go_big_quiet_op; refine hK_ _ ?_; clear hK_ K_)
        (refine tree_quiet (by simp only [List.getElem?_toArray, List.getElem?_cons_succ, List.getElem?_cons_zero]; rfl) (by rfl) (by rfl) (fun K_ hK_ => ?_); go_big_quiet_op; refine hK_ _ ?_; clear hK_ K_)
        (refine tree_quiet (by simp only [List.getElem?_toArray, List.getElem?_cons_succ, List.getElem?_cons_zero]; rfl) (by rfl) (by rfl) (fun K_ hK_ => ?_); go_big_quiet_op; refine hK_ _ ?_; clear hK_ K_)
        (refine tree_quiet (by simp only [List.getElem?_toArray, List.getElem?_cons_succ, List.getElem?_cons_zero]; rfl) (by rfl) (by rfl) (fun K_ hK_ => ?_); go_big_quiet_op; refine hK_ _ ?_; clear hK_ K_)
        (refine tree_quiet (by simp only [List.getElem?_toArray, List.getElem?_cons_succ, List.getElem?_cons_zero]; rfl) (by rfl) (by rfl) (fun K_ hK_ => ?_); go_big_quiet_op; refine hK_ _ ?_; clear hK_ K_)
        (refine tree_quiet (by simp only [List.getElem?_toArray, List.getElem?_cons_succ, List.getElem?_cons_zero]; rfl) (by rfl) (by rfl) (fun K_ hK_ => ?_); go_big_quiet_op; refine hK_ _ ?_; clear hK_ K_)
        (refine tree_quiet (by simp only [List.getElem?_toArray, List.getElem?_cons_succ, List.getElem?_cons_zero]; rfl) (by rfl) (by rfl) (fun K_ hK_ => ?_); go_big_quiet_op; refine hK_ _ ?_; clear hK_ K_)
        (refine tree_quiet (by simp only [List.getElem?_toArray, List.getElem?_cons_succ, List.getElem?_cons_zero]; rfl) (by rfl) (by rfl) (fun K_ hK_ => ?_); go_big_quiet_op; refine hK_ _ ?_; clear hK_ K_)
        (refine tree_quiet (by simp only [List.getElem?_toArray, List.getElem?_cons_succ, List.getElem?_cons_zero]; rfl) (by rfl) (by rfl) (fun K_ hK_ => ?_); go_big_quiet_op; refine hK_ _ ?_; clear hK_ K_)
        (refine tree_quiet (by simp only [List.getElem?_toArray, List.getElem?_cons_succ, List.getElem?_cons_zero]; rfl) (by rfl) (by rfl) (fun K_ hK_ => ?_); go_big_quiet_op; refine hK_ _ ?_; clear hK_ K_)
        (refine tree_quiet (by simp only [List.getElem?_toArray, List.getElem?_cons_succ, List.getElem?_cons_zero]; rfl) (by rfl) (by rfl) (fun K_ hK_ => ?_); go_big_quiet_op; refine hK_ _ ?_; clear hK_ K_)
        (refine tree_quiet (by simp only [List.getElem?_toArray, List.getElem?_cons_succ, List.getElem?_cons_zero]; rfl) (by rfl) (by rfl) (fun K_ hK_ => ?_); go_big_quiet_op; refine hK_ _ ?_; clear hK_ K_)
        (refine tree_run (by simp only [List.getElem?_toArray, List.getElem?_cons_succ, List.getElem?_cons_zero]; rfl) (by rfl) (by rfl) (fun K_ hK_ => ?_); have HK_ := Lib.hid hK_; clear hK_; go_wp2_with ((go_at_call 18; (with_reducible refine (HO.out _ (by exact blw)).mono ?_); rintro e w5 ⟨rfl, hb5⟩; have h5c := bc hb5; have h5f := bf hb5; have h5z := hb5.size; try simp only [World.size_alloc, World.size_drew] at h5z)); refine HK_.out _ _ (wld_ofA) ?_; clear HK_)
        refine tree_nil ?_
        clear hG_
        go_wp2_with fail
        go_roundw
        case rel => exact ⟨k + 1, hlt, by go_num, by rw [HSN.out], bthen (bdrew1 HB.out) hb5⟩
        case measure => simp [intOf]; omega
    · obtain rfl : rn = k := by omega
      have hall : rs.take rn = rs := List.take_of_length_le (by rw [HH.out.len]; exact Nat.le_refl _)
      rw [hall]
      clear hall
      go_wp2_with fail
      go_ret
      exact ⟨rfl, HB.out⟩
end Go.Proofs.Ytfnghinefbmlmaa
