/- Joined from: HRefO. -/
import Derived.Test.YthehcbbdkiomnaaJ01
import Derived.Test.YthehcbbdkiomnaaJ08
import Derived.Test.YthehcbbdkiomnaaJ07
section

/- The document's one chain out of just some bytes. Conditions: sixteen bytes at least, four thousand at most. -/
namespace Go.Proofs.Ythehcbbdkiomnaa
open Go.RowKit Go.Lib

theorem info_ruleR : (Try.prog.info? 147).map (fun i => (i.zero, i.size, i.bytes)) = some (some (.agg #[.int .i64 0, .int .i64 0, .int .u32 0, .int .u32 0]), 4, 24) := by kernel_rfl
theorem info_subR : (Try.prog.info? 148).map (fun i => (i.zero, i.size, i.bytes)) = some (some (.agg #[.int .u32 0, .int .u32 0, .slice none 0 0]), 3, 32) := by kernel_rfl
/-- A chain of the document's in memory. -/
structure SubR.IsR (w : World) (r : SubR) : Prop where
  has : Has w r.a (bytesV r.bs)
  len : r.bs.length = r.n
  cap : r.n ≤ r.c
  max : r.c ≤ maxLen
structure ChR.IsR (w : World) (r : ChR) : Prop where
  rules : HasT 147 w r.ar (ruDV r.rules)
  subs : HasT 148 w r.sa (subRV r.subs)
  capR : r.rules.length ≤ r.cr
  maxR : r.cr ≤ maxLen
  capS : r.subs.length ≤ r.sc
  maxS : r.sc ≤ maxLen
/-- What it answers, of bytes that start at a place and have some room. -/
def OneIs (w0 : World) (cb : List UInt8) (w : World) (e : Ending) (w' : World) : Prop :=
  ((∃ r : ChR, ChOk cb ∧ r.d = chD cb ∧ e = .returned (.tuple #[.agg r.enc.toArray, .bool true]) ∧ r.IsR w' ∧ ∀ s ∈ r.subs, s.IsR w0) ∨
    (¬ ChOk cb ∧ ∃ (f : Nat) (a1 : Option Addr) (m1 c1 : Nat) (a2 : Option Addr) (m2 c2 : Nat), e = .returned (.tuple #[.agg #[.int .u32 (f : Nat), .slice a1 m1 c1, .slice a2 m2 c2], .bool false]))) ∧ Below w.heap.size w w'
theorem fitO_iff (n N : Nat) (h : 16 ≤ n) : fitK n 2 (16 : Int) ((N : Nat) : Int) (12 : Int) ↔ 16 + 12 * N ≤ n := by
  have := fitK_iff (n := n) (P := 16) (s := N) (z := 12) h (by decide)
  rw [show ((16 : Nat) : Int) = 16 from rfl, show ((12 : Nat) : Int) = 12 from rfl] at this
  rw [this]
  omega
theorem u_four (a : Option Addr) (n c : Nat) (cb : List UInt8) (w : World) (h : Has w a (bytesV cb)) (hl : cb.length = n) (hn : n ≤ maxLen) (k : Nat) (z : Int) (hz : z = (k : Nat)) (hk : k + 4 ≤ n) : ∀ W, Below w.heap.size w W → Calls Try.prog 38 #[.slice a n c, .int .i64 z, .int .i64 4] W fun e w' => e = .returned (.int .i64 (num cb k 4 : Nat)) ∧ W = w' := by
  subst hz
  exact fun W hW => u_in a n c k 4 cb W (h.below hW) hl hk (by decide) hn
theorem u_two (a : Option Addr) (n c : Nat) (cb : List UInt8) (w : World) (h : Has w a (bytesV cb)) (hl : cb.length = n) (hn : n ≤ maxLen) (k : Nat) (z : Int) (hz : z = (k : Nat)) (hk : k + 2 ≤ n) : ∀ W, Below w.heap.size w W → Calls Try.prog 38 #[.slice a n c, .int .i64 z, .int .i64 2] W fun e w' => e = .returned (.int .i64 (num cb k 2 : Nat)) ∧ W = w' := by
  subst hz
  exact fun W hW => u_in a n c k 2 cb W (h.below hW) hl hk (by decide) hn
/-- What the number of four bytes is, if there are such. -/
def qN (bs : List UInt8) (k : Nat) : Int := if k + 4 ≤ bs.length then (num bs k 4 : Nat) else -1
theorem qN_any (a : Option Addr) (n c : Nat) (bs : List UInt8) (k : Nat) (z : Int) (hz : z = (k : Nat)) (w : World) (h : Has w a (bytesV bs)) (hl : bs.length = n) (hn : n ≤ maxLen) (hk : k ≤ 1000000000000) :
    Calls Try.prog 38 #[.slice a n c, .int .i64 z, .int .i64 4] w fun e w' => e = .returned (.int .i64 (qN bs k)) ∧ w = w' := by
  subst hz
  unfold qN
  split
  · exact u_in a n c k 4 bs w h hl (by omega) (by decide) hn
  · exact u_out a n c 4 (k : Int) w (by omega) (by omega) (by omega) hn
set_option maxRecDepth 100000 in
set_option maxHeartbeats 12800000 in
theorem refone_any (a : Option Addr) (n c : Nat) (cb : List UInt8) (w0 w : World) (hh0 : Has w0 a (bytesV cb)) (h : Has w a (bytesV cb)) (hl : cb.length = n) (hn : n ≤ c) (hc : c ≤ maxLen) (h16 : 16 ≤ n) (h4 : n ≤ 4000) :
    Calls Try.prog 58 #[.slice a n c] w (OneIs w0 cb w) := by
  have hAC := allocC
  have hAF := allocF
  have hnm := Nat.le_trans hn hc
  have HU4 := Lib.hid (u_four a n c cb w h hl hnm)
  have HU2 := Lib.hid (u_two a n c cb w h hl hnm)
  have HUQ := Lib.hid (fun (k : Nat) (z : Int) (hz : z = (k : Nat)) (hk : k ≤ 1000000) W (hW : Below w.heap.size w W) => qN_any a n c cb k z hz W (h.below hW) hl hnm (by omega))
  have HL := Lib.hid hl
  have HH := Lib.hid hh0
  have hN4 := num4_lt cb 8
  have hM4 := num4_lt cb 12
  have hF4 := num4_lt cb 0
  have h8 := fun z hz => HU4.out 8 z hz (by omega)
  have h12 := fun z hz => HU4.out 12 z hz (by omega)
  have h0 := fun z hz => HU4.out 0 z hz (by omega)
  have hr := fun B hB W => rref_any n (16 : Int) ((num cb 8 4 : Nat) : Int) 12 B hB W hnm (by decide) (by omega) (by decide)
  have HRD := Lib.hid (rulesD_succ cb)
  have HRL := Lib.hid (rulesD_length cb)
  have HRZ := Lib.hid (show rulesD cb 0 = [] from rfl)
  have HSZ := Lib.hid (show subsD cb 0 = [] from rfl)
  have HSDR := Lib.hid (show ∀ k, subsD cb (k + 1) = subsD cb k ++ [subD cb (posS cb (16 + 12 * num cb 8 4) k)] from subsD_succ cb)
  have HCH := Lib.hid (show 16 + 12 * num cb 8 4 ≤ n → (∀ k, k < num cb 12 4 → fitS cb (posS cb (16 + 12 * num cb 8 4) k)) → ChOk cb from fun h1 hf => ⟨by omega, by omega, hf⟩)
  have HNOR := Lib.hid (show ¬ 16 + 12 * num cb 8 4 ≤ n → ¬ ChOk cb from fun h1 h2 => h1 (by have := h2.rules; omega))
  have HNOC := Lib.hid (show ∀ k, k < num cb 12 4 → ¬ fitS cb (posS cb (16 + 12 * num cb 8 4) k) → ¬ ChOk cb from fun k hk hnf ho => hnf (ho.subs k hk))
  have HD := Lib.hid (show chD cb = ⟨num cb 0 4, rulesD cb (num cb 8 4), subsD cb (num cb 12 4)⟩ from rfl)
  generalize num cb 8 4 = N at *
  generalize num cb 12 4 = M at *
  generalize num cb 0 4 = F0 at *
  have H8 := Lib.hid h8
  have H12 := Lib.hid h12
  have H0 := Lib.hid h0
  clear h8 h12 h0 h hl hh0
  have wF : IntKind.u32.wrap (F0 : Int) = (F0 : Int) := IntWalk.u32_in _ (by omega)
  unfold OneIs
  by_cases hrow : 16 + 12 * N ≤ n
  case neg =>
    have HR := Lib.hid (hr false ⟨fun h => (by cases h), fun h => absurd ((fitO_iff n N h16).1 h) hrow⟩)
    have HNO := Lib.hid (HNOR.out hrow)
    clear hr hrow
    go_enter Try.func58, Try.ntmps58
    go_wp2_with (first | (go_at_call 38; (with_reducible refine (H8.out _ (by omega) _ (by exact blw)).mono ?_); rintro e w_ ⟨rfl, rfl⟩) | (go_at_call 38; (with_reducible refine (H12.out _ (by omega) _ (by exact blw)).mono ?_); rintro e w_ ⟨rfl, rfl⟩) | (go_at_call 38; (with_reducible refine (H0.out _ (by omega) _ (by exact blw)).mono ?_); rintro e w_ ⟨rfl, rfl⟩) | (go_at_call 70; (with_reducible refine (HR.out _).mono ?_); rintro e w_ ⟨rfl, rfl⟩))
    refine bodyPost_ret (v := .tuple #[.agg #[.int .u32 (F0 : Nat), .slice none 0 0, .slice none 0 0], .bool false]) (by simp [results, Try.results58, go_sem, hAC]) rfl ?_
    exact ⟨.inr ⟨HNO.out, F0, none, 0, 0, none, 0, 0, rfl⟩, blw⟩
  have HR := Lib.hid (hr true ⟨fun _ => (fitO_iff n N h16).2 hrow, fun _ => rfl⟩)
  clear hr
  go_enter Try.func58, Try.ntmps58
  go_wp2_with (first | (go_at_call 38; (with_reducible refine (H8.out _ (by omega) _ (by exact blw)).mono ?_); rintro e w_ ⟨rfl, rfl⟩) | (go_at_call 38; (with_reducible refine (H12.out _ (by omega) _ (by exact blw)).mono ?_); rintro e w_ ⟨rfl, rfl⟩) | (go_at_call 38; (with_reducible refine (H0.out _ (by omega) _ (by exact blw)).mono ?_); rintro e w_ ⟨rfl, rfl⟩) | (go_at_call 70; (with_reducible refine (HR.out _).mono ?_); rintro e w_ ⟨rfl, rfl⟩))
  obtain ⟨V, hV⟩ : ∃ V, V = w.alloc (Obj.cells #[.int .u32 0, .slice none 0 0, .slice none 0 0] 144) := ⟨_, rfl⟩
  have hzV : V.heap.size = w.heap.size + 1 := by rw [hV]; simp
  have H2V := Lib.hid (show V.heap[w.heap.size]? = some (.cells #[.int .u32 0, .slice none 0 0, .slice none 0 0] 144 (0, 0)) from by rw [hV, heap_push, if_pos rfl])
  have HBV0 := Lib.hid (show Below w.heap.size w V from by rw [hV]; exact balloc (brefl w) _)
  have H60 := Lib.hid (show (V.alloc (Obj.cells #[.int .u32 (F0 : Nat), .slice none 0 0, .slice none 0 0] 144)).heap[w.heap.size + 1]? = some (.cells #[.int .u32 (F0 : Nat), .slice none 0 0, .slice none 0 0] 144 (0, 0)) from by rw [heap_push, if_pos hzV.symm])
  rw [← hV]
  clear hV H8 H12 H0 HR
  generalize hg6 : w.heap.size + 1 = g6 at *
  go_loopw [7] (fun i wr => ∃ (j : Nat) (aR : Option Addr) (cR : Nat), j ≤ N ∧ i = .int .i64 (j : Nat) ∧ wr.heap[g6]? = some (.cells #[.int .u32 (F0 : Nat), .slice aR j cR, .slice none 0 0] 144 (0, 0)) ∧ wr.ownsRow V.heap.size 147 4 (.slice aR j cR) j (ruDV (rulesD cb j)) ∧ Below V.heap.size V wr) (fun i _ => N - (Go.RowKit.intOf i).toNat)
  case atStart => exact ⟨0, none, 0, Nat.zero_le _, rfl, H60.out, by rw [HRZ.out]; exact World.ownsRow_nil _ _ _ _, balloc (brefl V) _⟩
  case round =>
    obtain ⟨j, aR, cR, hj, rfl, h6, ho, hb⟩ := hrel
    rename World => wr
    have H6 := Lib.hid h6
    have HO := Lib.hid ho
    have HBV := Lib.hid hb
    have HBW := Lib.hid (HBV0.out.trans (hb.mono HBV0.out.size))
    have hzr : V.heap.size ≤ wr.heap.size := hb.size
    have l6 := (Array.getElem?_eq_some_iff.1 h6).1
    have k6 := fun o => cell_of_heap h6 o
    have f6 := fun o => froz_of_heap h6 o
    clear ho hb
    by_cases hlt : j < N
    · have dj : decide ((j : Int) < (N : Int)) = true := by simpa using hlt
      have hRDj := HRD.out j
      obtain ⟨p, hp⟩ : ∃ p, p = 16 + 12 * j := ⟨_, rfl⟩
      rw [← hp] at hRDj
      have w1 : IntKind.i64.wrap (12 * (j : Int)) = 12 * (j : Int) := IntWalk.i64_in _ (by omega)
      have w2 : IntKind.i64.wrap (16 + 12 * (j : Int)) = 16 + 12 * (j : Int) := IntWalk.i64_in _ (by omega)
      have w3 : IntKind.i64.wrap (16 + 12 * (j : Int) + 2) = 16 + 12 * (j : Int) + 2 := IntWalk.i64_in _ (by omega)
      have w4 : IntKind.i64.wrap (16 + 12 * (j : Int) + 4) = 16 + 12 * (j : Int) + 4 := IntWalk.i64_in _ (by omega)
      have w5 : IntKind.i64.wrap (16 + 12 * (j : Int) + 8) = 16 + 12 * (j : Int) + 8 := IntWalk.i64_in _ (by omega)
      have ha := fun z hz => HU2.out p z hz (by omega)
      have hb' := fun z hz => HU2.out (p + 2) z hz (by omega)
      have hc' := fun z hz => HU4.out (p + 4) z hz (by omega)
      have hd' := fun z hz => HU4.out (p + 8) z hz (by omega)
      have hr : ruD cb p = ⟨num cb p 2, num cb (p + 2) 2, num cb (p + 4) 4, num cb (p + 8) 4⟩ := rfl
      have n4 := num4_lt cb (p + 4)
      have n8 := num4_lt cb (p + 8)
      generalize num cb p 2 = r0 at *
      generalize num cb (p + 2) 2 = r1 at *
      generalize num cb (p + 4) 4 = r2 at *
      generalize num cb (p + 8) 4 = r3 at *
      have v2 : IntKind.u32.wrap (r2 : Int) = (r2 : Int) := IntWalk.u32_in _ (by omega)
      have v3 : IntKind.u32.wrap (r3 : Int) = (r3 : Int) := IntWalk.u32_in _ (by omega)
      have HA_ := Lib.hid ha
      have HB_ := Lib.hid hb'
      have HC_ := Lib.hid hc'
      have HD_ := Lib.hid hd'
      rw [hr] at hRDj
      have HRDJ := Lib.hid hRDj
      clear ha hb' hc' hd' hr hRDj
      go_wp2_with fail
      refine wp_region_lastY (.step 0 (.step 1 (.step 2 (.step 3 (.step 5 (.step 6 (.step 7 (.step 9 (.step 10 (.step 11 (.step 14 (.step 15 (.step 16 (.step 4 (.step 8 (.step 12 (.step 13 (.step 17 (.step 18 (.step 19 (.step 20 (.step 21 (.step 22 (.step 23 .nil)))))))))))))))))))))))) 23 (by kernel_rfl) (by kernel_rfl) (by kernel_rfl) (by kernel_rfl) (by kernel_rfl) (by intro _ _ d_ _ _ h_; cases d_ <;> first | exact h_ | (dsimp +zetaDelta only at h_ ⊢; exact h_)) (fun w' => ∃ p : KepP (fun k_ t_ => t_ = 147 ∧ True) wr, w' = p.val) (kepP_start _ _) ?_
      have hK0_ := fun (p : KepP (fun k_ t_ => t_ = 147 ∧ True) wr) (o : Nat) => p.is.cell h6 (by first | (intro h_; exact absurd h_.1 (by decide)) | (intro h_; exact h_.2 rfl) | (intro h_; rcases h_ with h_ | h_ | h_ <;> exact absurd h_ (by decide)) | (intro h_; rcases h_ with h_ | h_ <;> exact absurd h_ (by decide))) o
      (refine z_quiet gtA (by rfl) (by rfl) (fun K_ hK_ => ?_); go_big_quiet_op; refine hK_ _ ?_; clear hK_ K_)
      (refine z_quiet gtA (by rfl) (by rfl) (fun K_ hK_ => ?_); go_big_quiet_op; refine hK_ _ ?_; clear hK_ K_)
      (refine z_quiet gtA (by rfl) (by rfl) (fun K_ hK_ => ?_); go_big_quiet_op; refine hK_ _ ?_; clear hK_ K_)
      (refine z_quiet gtA (by rfl) (by rfl) (fun K_ hK_ => ?_); go_big_quiet_op; refine hK_ _ ?_; clear hK_ K_)
      (refine z_quiet gtA (by rfl) (by rfl) (fun K_ hK_ => ?_); go_big_quiet_op; refine hK_ _ ?_; clear hK_ K_)
      (refine z_quiet gtA (by rfl) (by rfl) (fun K_ hK_ => ?_); go_big_quiet_op; refine hK_ _ ?_; clear hK_ K_)
      (refine z_quiet gtA (by rfl) (by rfl) (fun K_ hK_ => ?_); go_big_quiet_op; refine hK_ _ ?_; clear hK_ K_)
      (refine z_quiet gtA (by rfl) (by rfl) (fun K_ hK_ => ?_); go_big_quiet_op; refine hK_ _ ?_; clear hK_ K_)
      (refine z_quiet gtA (by rfl) (by rfl) (fun K_ hK_ => ?_); go_big_quiet_op; refine hK_ _ ?_; clear hK_ K_)
      (refine z_quiet gtA (by rfl) (by rfl) (fun K_ hK_ => ?_); go_big_quiet_op; refine hK_ _ ?_; clear hK_ K_)
      (refine z_quiet gtA (by rfl) (by rfl) (fun K_ hK_ => ?_); go_big_quiet_op; refine hK_ _ ?_; clear hK_ K_)
      (refine z_quiet gtA (by rfl) (by rfl) (fun K_ hK_ => ?_); go_big_quiet_op; refine hK_ _ ?_; clear hK_ K_)
      (refine z_quiet gtA (by rfl) (by rfl) (fun K_ hK_ => ?_); go_big_quiet_op; refine hK_ _ ?_; clear hK_ K_)
      (refine z_run gtA (by rfl) (by rfl) (fun K_ hK_ => ?_); have HK_ := Lib.hid hK_; clear hK_; (first | (((refine wpAppO _ _ 141 rfl V.heap.size 147 (.agg #[.int .i64 0, .int .i64 0, .int .u32 0, .int .u32 0]) 4 24 Try.underlying141 info_ruleR rfl (by decide) _ j (ruDV (rulesD cb j)) rfl (owns_below HO.out (show Below wr.heap.size wr _ from blw) (Nat.le_refl _)) ⟨wr.heap.size, 0, none⟩ 1 1 [.int .i64 (r0 : Nat), .int .i64 (r1 : Nat), .int .u32 (r2 : Nat), .int .u32 (r3 : Nat)] rfl rfl (has_alloc _ _ _) (fun u hu => by simp at hu; rcases hu with rfl | rfl | rfl | rfl <;> rfl) (by unfold maxLen; omega) (by omega) (by simp; omega) ?_); intro a3 c3 w5 hown3 t31 t32 t33 hb3 hg3; have hko : KeptO (fun k_ t_ => t_ = 147 ∧ True) wr w5 := (KeptO.below (show Below wr.heap.size wr _ from blw)).trans (KeptO.grown (owns_below HO.out (show Below wr.heap.size wr _ from blw) (Nat.le_refl _)) hg3 fun m hm => ⟨rfl, trivial⟩); have hbv : Below V.heap.size wr w5 := ((show Below wr.heap.size wr _ from blw).mono hzr).trans hb3; have hw6 := (hko.2 g6 _ _ _ H6.out (fun h_ => absurd h_.1 (by decide))).trans H6.out; have s5 := fun o => cell_of_heap hw6 o; have sf := fun o => froz_of_heap hw6 o; have HO5 := Lib.hid hown3; have HKO := Lib.hid hko; have HBV5 := Lib.hid hbv; have HW6 := Lib.hid hw6; have hz5 := hko.1; clear hown3 t31 t32 t33 hb3 hg3 hko hbv hw6; dsimp only [Act.put]; simp only [List.setIfInBounds_toArray, List.set_cons_succ, List.set_cons_zero])) | (go_wp2_with (first | (go_at_call 38; (with_reducible refine (HA_.out _ (by omega) _ (by exact HBW.out.trans (Below.mono (w := wr) (by exact blw) HBW.out.size))).mono ?_); rintro e w_ ⟨rfl, rfl⟩) | (go_at_call 38; (with_reducible refine (HB_.out _ (by omega) _ (by exact HBW.out.trans (Below.mono (w := wr) (by exact blw) HBW.out.size))).mono ?_); rintro e w_ ⟨rfl, rfl⟩) | (go_at_call 38; (with_reducible refine (HC_.out _ (by omega) _ (by exact HBW.out.trans (Below.mono (w := wr) (by exact blw) HBW.out.size))).mono ?_); rintro e w_ ⟨rfl, rfl⟩) | (go_at_call 38; (with_reducible refine (HD_.out _ (by omega) _ (by exact HBW.out.trans (Below.mono (w := wr) (by exact blw) HBW.out.size))).mono ?_); rintro e w_ ⟨rfl, rfl⟩)))); refine HK_.out _ _ (kepP_ofA) ?_; clear HK_)
      (refine z_run gtA (by rfl) (by rfl) (fun K_ hK_ => ?_); have HK_ := Lib.hid hK_; clear hK_; (first | (((refine wpAppO _ _ 141 rfl V.heap.size 147 (.agg #[.int .i64 0, .int .i64 0, .int .u32 0, .int .u32 0]) 4 24 Try.underlying141 info_ruleR rfl (by decide) _ j (ruDV (rulesD cb j)) rfl (owns_below HO.out (show Below wr.heap.size wr _ from blw) (Nat.le_refl _)) ⟨wr.heap.size, 0, none⟩ 1 1 [.int .i64 (r0 : Nat), .int .i64 (r1 : Nat), .int .u32 (r2 : Nat), .int .u32 (r3 : Nat)] rfl rfl (has_alloc _ _ _) (fun u hu => by simp at hu; rcases hu with rfl | rfl | rfl | rfl <;> rfl) (by unfold maxLen; omega) (by omega) (by simp; omega) ?_); intro a3 c3 w5 hown3 t31 t32 t33 hb3 hg3; have hko : KeptO (fun k_ t_ => t_ = 147 ∧ True) wr w5 := (KeptO.below (show Below wr.heap.size wr _ from blw)).trans (KeptO.grown (owns_below HO.out (show Below wr.heap.size wr _ from blw) (Nat.le_refl _)) hg3 fun m hm => ⟨rfl, trivial⟩); have hbv : Below V.heap.size wr w5 := ((show Below wr.heap.size wr _ from blw).mono hzr).trans hb3; have hw6 := (hko.2 g6 _ _ _ H6.out (fun h_ => absurd h_.1 (by decide))).trans H6.out; have s5 := fun o => cell_of_heap hw6 o; have sf := fun o => froz_of_heap hw6 o; have HO5 := Lib.hid hown3; have HKO := Lib.hid hko; have HBV5 := Lib.hid hbv; have HW6 := Lib.hid hw6; have hz5 := hko.1; clear hown3 t31 t32 t33 hb3 hg3 hko hbv hw6; dsimp only [Act.put]; simp only [List.setIfInBounds_toArray, List.set_cons_succ, List.set_cons_zero])) | (go_wp2_with (first | (go_at_call 38; (with_reducible refine (HA_.out _ (by omega) _ (by exact HBW.out.trans (Below.mono (w := wr) (by exact blw) HBW.out.size))).mono ?_); rintro e w_ ⟨rfl, rfl⟩) | (go_at_call 38; (with_reducible refine (HB_.out _ (by omega) _ (by exact HBW.out.trans (Below.mono (w := wr) (by exact blw) HBW.out.size))).mono ?_); rintro e w_ ⟨rfl, rfl⟩) | (go_at_call 38; (with_reducible refine (HC_.out _ (by omega) _ (by exact HBW.out.trans (Below.mono (w := wr) (by exact blw) HBW.out.size))).mono ?_); rintro e w_ ⟨rfl, rfl⟩) | (go_at_call 38; (with_reducible refine (HD_.out _ (by omega) _ (by exact HBW.out.trans (Below.mono (w := wr) (by exact blw) HBW.out.size))).mono ?_); rintro e w_ ⟨rfl, rfl⟩)))); refine HK_.out _ _ (kepP_ofA) ?_; clear HK_)
      (refine z_run gtA (by rfl) (by rfl) (fun K_ hK_ => ?_); have HK_ := Lib.hid hK_; clear hK_; (first | (((refine wpAppO _ _ 141 rfl V.heap.size 147 (.agg #[.int .i64 0, .int .i64 0, .int .u32 0, .int .u32 0]) 4 24 Try.underlying141 info_ruleR rfl (by decide) _ j (ruDV (rulesD cb j)) rfl (owns_below HO.out (show Below wr.heap.size wr _ from blw) (Nat.le_refl _)) ⟨wr.heap.size, 0, none⟩ 1 1 [.int .i64 (r0 : Nat), .int .i64 (r1 : Nat), .int .u32 (r2 : Nat), .int .u32 (r3 : Nat)] rfl rfl (has_alloc _ _ _) (fun u hu => by simp at hu; rcases hu with rfl | rfl | rfl | rfl <;> rfl) (by unfold maxLen; omega) (by omega) (by simp; omega) ?_); intro a3 c3 w5 hown3 t31 t32 t33 hb3 hg3; have hko : KeptO (fun k_ t_ => t_ = 147 ∧ True) wr w5 := (KeptO.below (show Below wr.heap.size wr _ from blw)).trans (KeptO.grown (owns_below HO.out (show Below wr.heap.size wr _ from blw) (Nat.le_refl _)) hg3 fun m hm => ⟨rfl, trivial⟩); have hbv : Below V.heap.size wr w5 := ((show Below wr.heap.size wr _ from blw).mono hzr).trans hb3; have hw6 := (hko.2 g6 _ _ _ H6.out (fun h_ => absurd h_.1 (by decide))).trans H6.out; have s5 := fun o => cell_of_heap hw6 o; have sf := fun o => froz_of_heap hw6 o; have HO5 := Lib.hid hown3; have HKO := Lib.hid hko; have HBV5 := Lib.hid hbv; have HW6 := Lib.hid hw6; have hz5 := hko.1; clear hown3 t31 t32 t33 hb3 hg3 hko hbv hw6; dsimp only [Act.put]; simp only [List.setIfInBounds_toArray, List.set_cons_succ, List.set_cons_zero])) | (go_wp2_with (first | (go_at_call 38; (with_reducible refine (HA_.out _ (by omega) _ (by exact HBW.out.trans (Below.mono (w := wr) (by exact blw) HBW.out.size))).mono ?_); rintro e w_ ⟨rfl, rfl⟩) | (go_at_call 38; (with_reducible refine (HB_.out _ (by omega) _ (by exact HBW.out.trans (Below.mono (w := wr) (by exact blw) HBW.out.size))).mono ?_); rintro e w_ ⟨rfl, rfl⟩) | (go_at_call 38; (with_reducible refine (HC_.out _ (by omega) _ (by exact HBW.out.trans (Below.mono (w := wr) (by exact blw) HBW.out.size))).mono ?_); rintro e w_ ⟨rfl, rfl⟩) | (go_at_call 38; (with_reducible refine (HD_.out _ (by omega) _ (by exact HBW.out.trans (Below.mono (w := wr) (by exact blw) HBW.out.size))).mono ?_); rintro e w_ ⟨rfl, rfl⟩)))); refine HK_.out _ _ (kepP_ofA) ?_; clear HK_)
      (refine z_quiet gtA (by rfl) (by rfl) (fun K_ hK_ => ?_); go_big_quiet_op; refine hK_ _ ?_; clear hK_ K_)
      (refine z_run gtA (by rfl) (by rfl) (fun K_ hK_ => ?_); have HK_ := Lib.hid hK_; clear hK_; (first | (((refine wpAppO _ _ 141 rfl V.heap.size 147 (.agg #[.int .i64 0, .int .i64 0, .int .u32 0, .int .u32 0]) 4 24 Try.underlying141 info_ruleR rfl (by decide) _ j (ruDV (rulesD cb j)) rfl (owns_below HO.out (show Below wr.heap.size wr _ from blw) (Nat.le_refl _)) ⟨wr.heap.size, 0, none⟩ 1 1 [.int .i64 (r0 : Nat), .int .i64 (r1 : Nat), .int .u32 (r2 : Nat), .int .u32 (r3 : Nat)] rfl rfl (has_alloc _ _ _) (fun u hu => by simp at hu; rcases hu with rfl | rfl | rfl | rfl <;> rfl) (by unfold maxLen; omega) (by omega) (by simp; omega) ?_); intro a3 c3 w5 hown3 t31 t32 t33 hb3 hg3; have hko : KeptO (fun k_ t_ => t_ = 147 ∧ True) wr w5 := (KeptO.below (show Below wr.heap.size wr _ from blw)).trans (KeptO.grown (owns_below HO.out (show Below wr.heap.size wr _ from blw) (Nat.le_refl _)) hg3 fun m hm => ⟨rfl, trivial⟩); have hbv : Below V.heap.size wr w5 := ((show Below wr.heap.size wr _ from blw).mono hzr).trans hb3; have hw6 := (hko.2 g6 _ _ _ H6.out (fun h_ => absurd h_.1 (by decide))).trans H6.out; have s5 := fun o => cell_of_heap hw6 o; have sf := fun o => froz_of_heap hw6 o; have HO5 := Lib.hid hown3; have HKO := Lib.hid hko; have HBV5 := Lib.hid hbv; have HW6 := Lib.hid hw6; have hz5 := hko.1; clear hown3 t31 t32 t33 hb3 hg3 hko hbv hw6; dsimp only [Act.put]; simp only [List.setIfInBounds_toArray, List.set_cons_succ, List.set_cons_zero])) | (go_wp2_with (first | (go_at_call 38; (with_reducible refine (HA_.out _ (by omega) _ (by exact HBW.out.trans (Below.mono (w := wr) (by exact blw) HBW.out.size))).mono ?_); rintro e w_ ⟨rfl, rfl⟩) | (go_at_call 38; (with_reducible refine (HB_.out _ (by omega) _ (by exact HBW.out.trans (Below.mono (w := wr) (by exact blw) HBW.out.size))).mono ?_); rintro e w_ ⟨rfl, rfl⟩) | (go_at_call 38; (with_reducible refine (HC_.out _ (by omega) _ (by exact HBW.out.trans (Below.mono (w := wr) (by exact blw) HBW.out.size))).mono ?_); rintro e w_ ⟨rfl, rfl⟩) | (go_at_call 38; (with_reducible refine (HD_.out _ (by omega) _ (by exact HBW.out.trans (Below.mono (w := wr) (by exact blw) HBW.out.size))).mono ?_); rintro e w_ ⟨rfl, rfl⟩)))); refine HK_.out _ _ (kepP_ofA) ?_; clear HK_)
      (refine z_quiet gtA (by rfl) (by rfl) (fun K_ hK_ => ?_); go_big_quiet_op; refine hK_ _ ?_; clear hK_ K_)
      (refine z_quiet gtA (by rfl) (by rfl) (fun K_ hK_ => ?_); go_big_quiet_op; refine hK_ _ ?_; clear hK_ K_)
      (refine z_run gtA (by rfl) (by rfl) (fun K_ hK_ => ?_); have HK_ := Lib.hid hK_; clear hK_; (first | (((refine wpAppO _ _ 141 rfl V.heap.size 147 (.agg #[.int .i64 0, .int .i64 0, .int .u32 0, .int .u32 0]) 4 24 Try.underlying141 info_ruleR rfl (by decide) _ j (ruDV (rulesD cb j)) rfl (owns_below HO.out (show Below wr.heap.size wr _ from blw) (Nat.le_refl _)) ⟨wr.heap.size, 0, none⟩ 1 1 [.int .i64 (r0 : Nat), .int .i64 (r1 : Nat), .int .u32 (r2 : Nat), .int .u32 (r3 : Nat)] rfl rfl (has_alloc _ _ _) (fun u hu => by simp at hu; rcases hu with rfl | rfl | rfl | rfl <;> rfl) (by unfold maxLen; omega) (by omega) (by simp; omega) ?_); intro a3 c3 w5 hown3 t31 t32 t33 hb3 hg3; have hko : KeptO (fun k_ t_ => t_ = 147 ∧ True) wr w5 := (KeptO.below (show Below wr.heap.size wr _ from blw)).trans (KeptO.grown (owns_below HO.out (show Below wr.heap.size wr _ from blw) (Nat.le_refl _)) hg3 fun m hm => ⟨rfl, trivial⟩); have hbv : Below V.heap.size wr w5 := ((show Below wr.heap.size wr _ from blw).mono hzr).trans hb3; have hw6 := (hko.2 g6 _ _ _ H6.out (fun h_ => absurd h_.1 (by decide))).trans H6.out; have s5 := fun o => cell_of_heap hw6 o; have sf := fun o => froz_of_heap hw6 o; have HO5 := Lib.hid hown3; have HKO := Lib.hid hko; have HBV5 := Lib.hid hbv; have HW6 := Lib.hid hw6; have hz5 := hko.1; clear hown3 t31 t32 t33 hb3 hg3 hko hbv hw6; dsimp only [Act.put]; simp only [List.setIfInBounds_toArray, List.set_cons_succ, List.set_cons_zero])) | (go_wp2_with (first | (go_at_call 38; (with_reducible refine (HA_.out _ (by omega) _ (by exact HBW.out.trans (Below.mono (w := wr) (by exact blw) HBW.out.size))).mono ?_); rintro e w_ ⟨rfl, rfl⟩) | (go_at_call 38; (with_reducible refine (HB_.out _ (by omega) _ (by exact HBW.out.trans (Below.mono (w := wr) (by exact blw) HBW.out.size))).mono ?_); rintro e w_ ⟨rfl, rfl⟩) | (go_at_call 38; (with_reducible refine (HC_.out _ (by omega) _ (by exact HBW.out.trans (Below.mono (w := wr) (by exact blw) HBW.out.size))).mono ?_); rintro e w_ ⟨rfl, rfl⟩) | (go_at_call 38; (with_reducible refine (HD_.out _ (by omega) _ (by exact HBW.out.trans (Below.mono (w := wr) (by exact blw) HBW.out.size))).mono ?_); rintro e w_ ⟨rfl, rfl⟩)))); refine HK_.out _ _ (kepP_ofA) ?_; clear HK_)
      (refine z_run gtA (by rfl) (by rfl) (fun K_ hK_ => ?_); have HK_ := Lib.hid hK_; clear hK_; (first | (((refine wpAppO _ _ 141 rfl V.heap.size 147 (.agg #[.int .i64 0, .int .i64 0, .int .u32 0, .int .u32 0]) 4 24 Try.underlying141 info_ruleR rfl (by decide) _ j (ruDV (rulesD cb j)) rfl (owns_below HO.out (show Below wr.heap.size wr _ from blw) (Nat.le_refl _)) ⟨wr.heap.size, 0, none⟩ 1 1 [.int .i64 (r0 : Nat), .int .i64 (r1 : Nat), .int .u32 (r2 : Nat), .int .u32 (r3 : Nat)] rfl rfl (has_alloc _ _ _) (fun u hu => by simp at hu; rcases hu with rfl | rfl | rfl | rfl <;> rfl) (by unfold maxLen; omega) (by omega) (by simp; omega) ?_); intro a3 c3 w5 hown3 t31 t32 t33 hb3 hg3; have hko : KeptO (fun k_ t_ => t_ = 147 ∧ True) wr w5 := (KeptO.below (show Below wr.heap.size wr _ from blw)).trans (KeptO.grown (owns_below HO.out (show Below wr.heap.size wr _ from blw) (Nat.le_refl _)) hg3 fun m hm => ⟨rfl, trivial⟩); have hbv : Below V.heap.size wr w5 := ((show Below wr.heap.size wr _ from blw).mono hzr).trans hb3; have hw6 := (hko.2 g6 _ _ _ H6.out (fun h_ => absurd h_.1 (by decide))).trans H6.out; have s5 := fun o => cell_of_heap hw6 o; have sf := fun o => froz_of_heap hw6 o; have HO5 := Lib.hid hown3; have HKO := Lib.hid hko; have HBV5 := Lib.hid hbv; have HW6 := Lib.hid hw6; have hz5 := hko.1; clear hown3 t31 t32 t33 hb3 hg3 hko hbv hw6; dsimp only [Act.put]; simp only [List.setIfInBounds_toArray, List.set_cons_succ, List.set_cons_zero])) | (go_wp2_with (first | (go_at_call 38; (with_reducible refine (HA_.out _ (by omega) _ (by exact HBW.out.trans (Below.mono (w := wr) (by exact blw) HBW.out.size))).mono ?_); rintro e w_ ⟨rfl, rfl⟩) | (go_at_call 38; (with_reducible refine (HB_.out _ (by omega) _ (by exact HBW.out.trans (Below.mono (w := wr) (by exact blw) HBW.out.size))).mono ?_); rintro e w_ ⟨rfl, rfl⟩) | (go_at_call 38; (with_reducible refine (HC_.out _ (by omega) _ (by exact HBW.out.trans (Below.mono (w := wr) (by exact blw) HBW.out.size))).mono ?_); rintro e w_ ⟨rfl, rfl⟩) | (go_at_call 38; (with_reducible refine (HD_.out _ (by omega) _ (by exact HBW.out.trans (Below.mono (w := wr) (by exact blw) HBW.out.size))).mono ?_); rintro e w_ ⟨rfl, rfl⟩)))); refine HK_.out _ _ (kepP_ofA) ?_; clear HK_)
      (refine z_quiet gtA (by rfl) (by rfl) (fun K_ hK_ => ?_); go_big_quiet_op; refine hK_ _ ?_; clear hK_ K_)
      (refine z_last gtA (by rfl) (by rfl) (by rfl) (fun K_ hK_ => ?_); have HK_ := Lib.hid hK_; clear hK_; (first | (((refine wpAppO _ _ 141 rfl V.heap.size 147 (.agg #[.int .i64 0, .int .i64 0, .int .u32 0, .int .u32 0]) 4 24 Try.underlying141 info_ruleR rfl (by decide) _ j (ruDV (rulesD cb j)) rfl (owns_below HO.out (show Below wr.heap.size wr _ from blw) (Nat.le_refl _)) ⟨wr.heap.size, 0, none⟩ 1 1 [.int .i64 (r0 : Nat), .int .i64 (r1 : Nat), .int .u32 (r2 : Nat), .int .u32 (r3 : Nat)] rfl rfl (has_alloc _ _ _) (fun u hu => by simp at hu; rcases hu with rfl | rfl | rfl | rfl <;> rfl) (by unfold maxLen; omega) (by omega) (by simp; omega) ?_); intro a3 c3 w5 hown3 t31 t32 t33 hb3 hg3; have hko : KeptO (fun k_ t_ => t_ = 147 ∧ True) wr w5 := (KeptO.below (show Below wr.heap.size wr _ from blw)).trans (KeptO.grown (owns_below HO.out (show Below wr.heap.size wr _ from blw) (Nat.le_refl _)) hg3 fun m hm => ⟨rfl, trivial⟩); have hbv : Below V.heap.size wr w5 := ((show Below wr.heap.size wr _ from blw).mono hzr).trans hb3; have hw6 := (hko.2 g6 _ _ _ H6.out (fun h_ => absurd h_.1 (by decide))).trans H6.out; have s5 := fun o => cell_of_heap hw6 o; have sf := fun o => froz_of_heap hw6 o; have HO5 := Lib.hid hown3; have HKO := Lib.hid hko; have HBV5 := Lib.hid hbv; have HW6 := Lib.hid hw6; have hz5 := hko.1; clear hown3 t31 t32 t33 hb3 hg3 hko hbv hw6; dsimp only [Act.put]; simp only [List.setIfInBounds_toArray, List.set_cons_succ, List.set_cons_zero])) | (go_wp2_with (first | (go_at_call 38; (with_reducible refine (HA_.out _ (by omega) _ (by exact HBW.out.trans (Below.mono (w := wr) (by exact blw) HBW.out.size))).mono ?_); rintro e w_ ⟨rfl, rfl⟩) | (go_at_call 38; (with_reducible refine (HB_.out _ (by omega) _ (by exact HBW.out.trans (Below.mono (w := wr) (by exact blw) HBW.out.size))).mono ?_); rintro e w_ ⟨rfl, rfl⟩) | (go_at_call 38; (with_reducible refine (HC_.out _ (by omega) _ (by exact HBW.out.trans (Below.mono (w := wr) (by exact blw) HBW.out.size))).mono ?_); rintro e w_ ⟨rfl, rfl⟩) | (go_at_call 38; (with_reducible refine (HD_.out _ (by omega) _ (by exact HBW.out.trans (Below.mono (w := wr) (by exact blw) HBW.out.size))).mono ?_); rintro e w_ ⟨rfl, rfl⟩)))); refine HK_.out _ _ ?_; clear HK_)
      refine z_nil ?_
      clear hK0_
      clear s5 sf k6 f6 h6
      go_wp2_with fail
      go_roundw
      case rel => exact ⟨j + 1, a3, c3, hlt, by go_num, set_heap_at (o := 1) (.slice a3 (j + 1) c3) HW6.out, by rw [HRDJ.out, ruDV_snoc]; exact set_owns _ HO5.out (own_neE HO5.out HW6.out (by decide)), (HBV.out.trans HBV5.out).setCell (p := ⟨g6, 1, none⟩) (by show V.heap.size ≤ g6; omega) _⟩
      case measure => simp [Go.RowKit.intOf]; omega
    · obtain rfl : N = j := by omega
      have dj : decide ((N : Int) < (N : Int)) = false := by simp
      have HRR := Lib.hid (show HasT 147 wr aR (ruDV (rulesD cb N)) from hasT_of_owns HO.out)
      obtain ⟨_, _, heq, hcR, hmR, _⟩ := owns_slice HO.out
      cases heq
      have w1 : IntKind.i64.wrap (12 * (N : Int)) = 12 * (N : Int) := IntWalk.i64_in _ (by omega)
      have w2 : IntKind.i64.wrap (16 + 12 * (N : Int)) = 16 + 12 * (N : Int) := IntWalk.i64_in _ (by omega)
      clear hj hlt k6 f6 h6 HO
      go_wp2_with fail
      go_loopw [9, 10] (fun pz i wv => ∃ (k : Nat) (srs : List SubR) (aS : Option Addr) (cS : Nat), k ≤ M ∧ pz = .int .i64 (posS cb (16 + 12 * N) k : Nat) ∧ i = .int .i64 (k : Nat) ∧ srs.length = k ∧ (∀ q, q < k → fitS cb (posS cb (16 + 12 * N) q)) ∧ srs.map SubR.d = subsD cb k ∧ (∀ s ∈ srs, s.IsR w0) ∧
        wv.heap[g6]? = some (.cells #[.int .u32 (F0 : Nat), .slice aR N cR, .slice aS k cS] 144 (0, 0)) ∧ wv.ownsRow V.heap.size 148 3 (.slice aS k cS) k (subRV srs) ∧ HasT 147 wv aR (ruDV (rulesD cb N)) ∧ Below V.heap.size V wv) (fun _ i _ => M - (Go.RowKit.intOf i).toNat)
      case atStart => exact ⟨0, [], none, 0, Nat.zero_le _, (by show _ = Value.int .i64 ((16 + 12 * N : Nat) : Int); go_num), rfl, rfl, (fun q hq => by omega), (by rw [HSZ.out]; rfl), (fun s hs => by simp at hs), H6.out, World.ownsRow_nil _ _ _ _, HRR.out, HBV.out⟩
      case round =>
        obtain ⟨k, srs, aS, cS, hk, rfl, rfl, hsl, hfit, hds, heach, h6, ho, hru, hb⟩ := hrel
        rename World => wv
        have H6R := Lib.hid h6
        have HO := Lib.hid ho
        have HFIT := Lib.hid hfit
        have HDS := Lib.hid hds
        have HEACH := Lib.hid heach
        have HRU := Lib.hid hru
        have HBVV := Lib.hid hb
        have HBWV := Lib.hid (HBV0.out.trans (hb.mono HBV0.out.size))
        have hzv : V.heap.size ≤ wv.heap.size := hb.size
        have hpn := posS_le (cb := cb) (p0 := 16 + 12 * N) (by rw [HL.out]; omega) k hfit
        have hpg := posS_ge (cb := cb) (p0 := 16 + 12 * N) k hfit
        rw [HL.out] at hpn
        have HPS := Lib.hid (show posS cb (16 + 12 * N) (k + 1) = posS cb (16 + 12 * N) k + num cb (posS cb (16 + 12 * N) k) 4 from rfl)
        have HSDK := Lib.hid (HSDR.out k)
        have HNK := Lib.hid (fun hk => HNOC.out k hk)
        have HFK := Lib.hid (fun (h : fitS cb (posS cb (16 + 12 * N) k)) q (hq : q < k + 1) => show fitS cb (posS cb (16 + 12 * N) q) from by
          rcases Nat.lt_or_ge q k with g | g
          · exact HFIT.out q g
          · rw [show q = k by omega]; exact h)
        have l6 := (Array.getElem?_eq_some_iff.1 h6).1
        have k6 := fun o => cell_of_heap h6 o
        have f6 := fun o => froz_of_heap h6 o
        have l2 := (Array.getElem?_eq_some_iff.1 ((HBVV.out.block _ (by omega)).trans H2V.out)).1
        have k2 := fun o => cell_of_heap ((HBVV.out.block _ (by omega)).trans H2V.out) o
        have f2 := fun o => froz_of_heap ((HBVV.out.block _ (by omega)).trans H2V.out) o
        clear hfit hds heach ho hru hb
        by_cases hlt : k < M
        · have dk : decide ((k : Int) < (M : Int)) = true := by simpa using hlt
          have hnk := HNK.out hlt
          generalize hp : posS cb (16 + 12 * N) k = p at *
          have HUP := Lib.hid (fun z hz => HUQ.out p z hz (by omega))
          have hfd : fitS cb p ↔ p + 12 ≤ n ∧ 12 ≤ num cb p 4 ∧ p + num cb p 4 ≤ n := by unfold fitS; rw [HL.out]
          have HFD := Lib.hid hfd
          have hq : qN cb p = if p + 4 ≤ n then ((num cb p 4 : Nat) : Int) else -1 := by unfold qN; rw [HL.out]
          have hs4 := num4_lt cb p
          clear hfd
          by_cases c12 : 12 ≤ qN cb p
          case neg =>
            have HNO := Lib.hid (hnk fun hf => c12 (by have := HFD.out.1 hf; rw [hq, if_pos (by omega)]; omega))
            have d12 : decide (qN cb p < 12) = true := by simp; omega
            clear hnk hq c12
            go_wp2_with (first | (go_at_call 38; (with_reducible refine (HUP.out _ (by rfl) _ (by exact HBWV.out)).mono ?_); rintro e w_ ⟨rfl, rfl⟩))
            refine bodyPost_ret (v := .tuple #[.agg #[.int .u32 (F0 : Nat), .slice aR N cR, .slice aS k cS], .bool false]) (by simp [results, Try.results58, go_sem, k2, l2]) rfl ?_
            exact ⟨.inr ⟨HNO.out, F0, aR, N, cR, aS, k, cS, rfl⟩, bset (bset (bset HBWV.out (p := ⟨w.heap.size, 0, none⟩) (Nat.le_refl _) _) (p := ⟨w.heap.size, 1, none⟩) (Nat.le_refl _) _) (p := ⟨w.heap.size, 2, none⟩) (Nat.le_refl _) _⟩
          have hqs : qN cb p = ((num cb p 4 : Nat) : Int) := by
            by_cases g : p + 4 ≤ n
            · rw [hq, if_pos g]
            · rw [hq, if_neg g] at c12
              omega
          have hup := fun z hz => HUQ.out p z hz (by omega)
          rw [hqs] at hup c12
          have hHI := fun W => in_any n (p : Int) ((num cb p 4 : Nat) : Int) W hnm (by omega) (by omega)
          have hsb : subD cb p = ⟨num cb (p + 4) 4, num cb (p + 8) 4, (cb.drop (p + 12)).take (num cb p 4 - 12)⟩ := rfl
          clear hqs hq HUP
          generalize num cb p 4 = s at *
          have d12 : decide ((s : Int) < 12) = false := by simp; omega
          have HUP := Lib.hid hup
          clear hup
          by_cases cs : p + s ≤ n
          case neg =>
            have HNO := Lib.hid (hnk fun hf => cs (HFD.out.1 hf).2.2)
            rw [show decide ((0 : Int) ≤ (p : Int) ∧ (0 : Int) ≤ (s : Int) ∧ (p : Int) ≤ (n : Int) ∧ (s : Int) ≤ (n : Int) - (p : Int)) = false from by simp; omega] at hHI
            have HI := Lib.hid hHI
            clear hnk hHI hsb
            go_wp2_with (first | (go_at_call 38; (with_reducible refine (HUP.out _ (by rfl) _ (by exact HBWV.out)).mono ?_); rintro e w_ ⟨rfl, rfl⟩) | (go_at_call 57; (with_reducible refine (HI.out _).mono ?_); rintro e w_ ⟨rfl, rfl⟩))
            refine bodyPost_ret (v := .tuple #[.agg #[.int .u32 (F0 : Nat), .slice aR N cR, .slice aS k cS], .bool false]) (by simp [results, Try.results58, go_sem, k2, l2]) rfl ?_
            exact ⟨.inr ⟨HNO.out, F0, aR, N, cR, aS, k, cS, rfl⟩, bset (bset (bset HBWV.out (p := ⟨w.heap.size, 0, none⟩) (Nat.le_refl _) _) (p := ⟨w.heap.size, 1, none⟩) (Nat.le_refl _) _) (p := ⟨w.heap.size, 2, none⟩) (Nat.le_refl _) _⟩
          rw [show decide ((0 : Int) ≤ (p : Int) ∧ (0 : Int) ≤ (s : Int) ∧ (p : Int) ≤ (n : Int) ∧ (s : Int) ≤ (n : Int) - (p : Int)) = true from by simp; omega] at hHI
          have HI := Lib.hid hHI
          have HFS := Lib.hid (HFK.out (HFD.out.2 ⟨by omega, by omega, cs⟩))
          have hco := fun z hz => HU4.out (p + 4) z hz (by omega)
          have hfl := fun z hz => HU4.out (p + 8) z hz (by omega)
          have n4 := num4_lt cb (p + 4)
          have n8 := num4_lt cb (p + 8)
          generalize num cb (p + 4) 4 = co at *
          generalize num cb (p + 8) 4 = fl at *
          have v2 : IntKind.u32.wrap (co : Int) = (co : Int) := IntWalk.u32_in _ (by omega)
          have v3 : IntKind.u32.wrap (fl : Int) = (fl : Int) := IntWalk.u32_in _ (by omega)
          have HSB := Lib.hid hsb
          have HCO := Lib.hid hco
          have HFL := Lib.hid hfl
          have x1 : IntKind.i64.wrap ((p : Int) + 4) = (p : Int) + 4 := IntWalk.i64_in _ (by omega)
          have x2 : IntKind.i64.wrap ((p : Int) + 8) = (p : Int) + 8 := IntWalk.i64_in _ (by omega)
          have x3 : IntKind.i64.wrap ((p : Int) + 12) = (p : Int) + 12 := IntWalk.i64_in _ (by omega)
          have x4 : IntKind.i64.wrap ((p : Int) + (s : Int)) = (p : Int) + (s : Int) := IntWalk.i64_in _ (by omega)
          clear hnk hHI hsb hco hfl k2 f2 l2
          go_wp2_with (first | (go_at_call 38; (with_reducible refine (HUP.out _ (by rfl) _ (by exact HBWV.out)).mono ?_); rintro e w_ ⟨rfl, rfl⟩) | (go_at_call 57; (with_reducible refine (HI.out _).mono ?_); rintro e w_ ⟨rfl, rfl⟩))
          by_cases hcp : c = p + 12
          case pos =>
            subst hcp
            refine wp_region_lastY (.step 0 (.step 1 (.step 2 (.step 3 (.step 4 (.step 7 (.step 8 (.step 9 (.step 12 (.step 13 (.step 14 (.step 15 (.step 16 (.step 17 (.step 18 (.step 5 (.step 6 (.step 10 (.step 11 (.step 19 (.step 20 (.step 21 (.step 22 (.step 23 .nil)))))))))))))))))))))))) 23 (by kernel_rfl) (by kernel_rfl) (by kernel_rfl) (by kernel_rfl) (by kernel_rfl) (by intro _ _ d_ _ _ h_; cases d_ <;> first | exact h_ | (dsimp +zetaDelta only at h_ ⊢; exact h_)) (fun w' => ∃ p : KepP (fun k_ t_ => t_ = 148 ∧ True) wv, w' = p.val) (kepP_start _ _) ?_
            have hK0_ := fun (p : KepP (fun k_ t_ => t_ = 148 ∧ True) wv) (o : Nat) => p.is.cell h6 (by first | (intro h_; exact absurd h_.1 (by decide)) | (intro h_; exact h_.2 rfl) | (intro h_; rcases h_ with h_ | h_ | h_ <;> exact absurd h_ (by decide)) | (intro h_; rcases h_ with h_ | h_ <;> exact absurd h_ (by decide))) o
            (refine z_quiet gtA (by rfl) (by rfl) (fun K_ hK_ => ?_); go_big_quiet_op; refine hK_ _ ?_; clear hK_ K_)
            (refine z_quiet gtA (by rfl) (by rfl) (fun K_ hK_ => ?_); go_big_quiet_op; refine hK_ _ ?_; clear hK_ K_)
            (refine z_quiet gtA (by rfl) (by rfl) (fun K_ hK_ => ?_); go_big_quiet_op; refine hK_ _ ?_; clear hK_ K_)
            (refine z_quiet gtA (by rfl) (by rfl) (fun K_ hK_ => ?_); go_big_quiet_op; refine hK_ _ ?_; clear hK_ K_)
            (refine z_quiet gtA (by rfl) (by rfl) (fun K_ hK_ => ?_); go_big_quiet_op; refine hK_ _ ?_; clear hK_ K_)
            (refine z_quiet gtA (by rfl) (by rfl) (fun K_ hK_ => ?_); go_big_quiet_op; refine hK_ _ ?_; clear hK_ K_)
            (refine z_quiet gtA (by rfl) (by rfl) (fun K_ hK_ => ?_); go_big_quiet_op; refine hK_ _ ?_; clear hK_ K_)
            (refine z_quiet gtA (by rfl) (by rfl) (fun K_ hK_ => ?_); go_big_quiet_op; refine hK_ _ ?_; clear hK_ K_)
            (refine z_quiet gtA (by rfl) (by rfl) (fun K_ hK_ => ?_); go_big_quiet_op; refine hK_ _ ?_; clear hK_ K_)
            (refine z_quiet gtA (by rfl) (by rfl) (fun K_ hK_ => ?_); go_big_quiet_op; refine hK_ _ ?_; clear hK_ K_)
            (refine z_quiet gtA (by rfl) (by rfl) (fun K_ hK_ => ?_); go_big_quiet_op; refine hK_ _ ?_; clear hK_ K_)
            (refine z_quiet gtA (by rfl) (by rfl) (fun K_ hK_ => ?_); go_big_quiet_op; refine hK_ _ ?_; clear hK_ K_)
            (refine z_quiet gtA (by rfl) (by rfl) (fun K_ hK_ => ?_); go_big_quiet_op; refine hK_ _ ?_; clear hK_ K_)
            (refine z_quiet gtA (by rfl) (by rfl) (fun K_ hK_ => ?_); go_big_quiet_op; refine hK_ _ ?_; clear hK_ K_)
            (refine z_quiet gtA (by rfl) (by rfl) (fun K_ hK_ => ?_); go_big_quiet_op; refine hK_ _ ?_; clear hK_ K_)
            (refine z_run gtA (by rfl) (by rfl) (fun K_ hK_ => ?_); have HK_ := Lib.hid hK_; clear hK_; (first | (((refine wpAppO _ _ 142 rfl V.heap.size 148 (.agg #[.int .u32 0, .int .u32 0, .slice none 0 0]) 3 32 Try.underlying142 info_subR rfl (by decide) _ k (subRV srs) rfl (owns_below HO.out (show Below wv.heap.size wv _ from blw) (Nat.le_refl _)) ⟨wv.heap.size, 0, none⟩ 1 1 [.int .u32 (co : Nat), .int .u32 (fl : Nat), .slice a (p + s - (p + 12)) 0] rfl rfl (has_alloc _ _ _) (fun u hu => by simp at hu; rcases hu with rfl | rfl | rfl <;> rfl) (by unfold maxLen; omega) (by omega) (by simp; omega) ?_); intro a3 c3 w5 hown3 t31 t32 t33 hb3 hg3; have hko : KeptO (fun k_ t_ => t_ = 148 ∧ True) wv w5 := (KeptO.below (show Below wv.heap.size wv _ from blw)).trans (KeptO.grown (owns_below HO.out (show Below wv.heap.size wv _ from blw) (Nat.le_refl _)) hg3 fun m hm => ⟨rfl, trivial⟩); have hbv : Below V.heap.size wv w5 := ((show Below wv.heap.size wv _ from blw).mono hzv).trans hb3; have hw6 := (hko.2 g6 _ _ _ H6R.out (fun h_ => absurd h_.1 (by decide))).trans H6R.out; have s5 := fun o => cell_of_heap hw6 o; have sf := fun o => froz_of_heap hw6 o; have HO5 := Lib.hid hown3; have HKO := Lib.hid hko; have HBV5 := Lib.hid hbv; have HW6 := Lib.hid hw6; have hz5 := hko.1; clear hown3 t31 t32 t33 hb3 hg3 hko hbv hw6; dsimp only [Act.put]; simp only [List.setIfInBounds_toArray, List.set_cons_succ, List.set_cons_zero])) | (go_wp2_with (first | (go_at_call 38; (with_reducible refine (HCO.out _ (by omega) _ (by exact HBWV.out.trans (Below.mono (w := wv) (by exact blw) HBWV.out.size))).mono ?_); rintro e w_ ⟨rfl, rfl⟩) | (go_at_call 38; (with_reducible refine (HFL.out _ (by omega) _ (by exact HBWV.out.trans (Below.mono (w := wv) (by exact blw) HBWV.out.size))).mono ?_); rintro e w_ ⟨rfl, rfl⟩)))); refine HK_.out _ _ (kepP_ofA) ?_; clear HK_)
            (refine z_quiet gtA (by rfl) (by rfl) (fun K_ hK_ => ?_); go_big_quiet_op; refine hK_ _ ?_; clear hK_ K_)
            (refine z_run gtA (by rfl) (by rfl) (fun K_ hK_ => ?_); have HK_ := Lib.hid hK_; clear hK_; (first | (((refine wpAppO _ _ 142 rfl V.heap.size 148 (.agg #[.int .u32 0, .int .u32 0, .slice none 0 0]) 3 32 Try.underlying142 info_subR rfl (by decide) _ k (subRV srs) rfl (owns_below HO.out (show Below wv.heap.size wv _ from blw) (Nat.le_refl _)) ⟨wv.heap.size, 0, none⟩ 1 1 [.int .u32 (co : Nat), .int .u32 (fl : Nat), .slice a (p + s - (p + 12)) 0] rfl rfl (has_alloc _ _ _) (fun u hu => by simp at hu; rcases hu with rfl | rfl | rfl <;> rfl) (by unfold maxLen; omega) (by omega) (by simp; omega) ?_); intro a3 c3 w5 hown3 t31 t32 t33 hb3 hg3; have hko : KeptO (fun k_ t_ => t_ = 148 ∧ True) wv w5 := (KeptO.below (show Below wv.heap.size wv _ from blw)).trans (KeptO.grown (owns_below HO.out (show Below wv.heap.size wv _ from blw) (Nat.le_refl _)) hg3 fun m hm => ⟨rfl, trivial⟩); have hbv : Below V.heap.size wv w5 := ((show Below wv.heap.size wv _ from blw).mono hzv).trans hb3; have hw6 := (hko.2 g6 _ _ _ H6R.out (fun h_ => absurd h_.1 (by decide))).trans H6R.out; have s5 := fun o => cell_of_heap hw6 o; have sf := fun o => froz_of_heap hw6 o; have HO5 := Lib.hid hown3; have HKO := Lib.hid hko; have HBV5 := Lib.hid hbv; have HW6 := Lib.hid hw6; have hz5 := hko.1; clear hown3 t31 t32 t33 hb3 hg3 hko hbv hw6; dsimp only [Act.put]; simp only [List.setIfInBounds_toArray, List.set_cons_succ, List.set_cons_zero])) | (go_wp2_with (first | (go_at_call 38; (with_reducible refine (HCO.out _ (by omega) _ (by exact HBWV.out.trans (Below.mono (w := wv) (by exact blw) HBWV.out.size))).mono ?_); rintro e w_ ⟨rfl, rfl⟩) | (go_at_call 38; (with_reducible refine (HFL.out _ (by omega) _ (by exact HBWV.out.trans (Below.mono (w := wv) (by exact blw) HBWV.out.size))).mono ?_); rintro e w_ ⟨rfl, rfl⟩)))); refine HK_.out _ _ (kepP_ofA) ?_; clear HK_)
            (refine z_quiet gtA (by rfl) (by rfl) (fun K_ hK_ => ?_); go_big_quiet_op; refine hK_ _ ?_; clear hK_ K_)
            (refine z_quiet gtA (by rfl) (by rfl) (fun K_ hK_ => ?_); go_big_quiet_op; refine hK_ _ ?_; clear hK_ K_)
            (refine z_run gtA (by rfl) (by rfl) (fun K_ hK_ => ?_); have HK_ := Lib.hid hK_; clear hK_; (first | (((refine wpAppO _ _ 142 rfl V.heap.size 148 (.agg #[.int .u32 0, .int .u32 0, .slice none 0 0]) 3 32 Try.underlying142 info_subR rfl (by decide) _ k (subRV srs) rfl (owns_below HO.out (show Below wv.heap.size wv _ from blw) (Nat.le_refl _)) ⟨wv.heap.size, 0, none⟩ 1 1 [.int .u32 (co : Nat), .int .u32 (fl : Nat), .slice a (p + s - (p + 12)) 0] rfl rfl (has_alloc _ _ _) (fun u hu => by simp at hu; rcases hu with rfl | rfl | rfl <;> rfl) (by unfold maxLen; omega) (by omega) (by simp; omega) ?_); intro a3 c3 w5 hown3 t31 t32 t33 hb3 hg3; have hko : KeptO (fun k_ t_ => t_ = 148 ∧ True) wv w5 := (KeptO.below (show Below wv.heap.size wv _ from blw)).trans (KeptO.grown (owns_below HO.out (show Below wv.heap.size wv _ from blw) (Nat.le_refl _)) hg3 fun m hm => ⟨rfl, trivial⟩); have hbv : Below V.heap.size wv w5 := ((show Below wv.heap.size wv _ from blw).mono hzv).trans hb3; have hw6 := (hko.2 g6 _ _ _ H6R.out (fun h_ => absurd h_.1 (by decide))).trans H6R.out; have s5 := fun o => cell_of_heap hw6 o; have sf := fun o => froz_of_heap hw6 o; have HO5 := Lib.hid hown3; have HKO := Lib.hid hko; have HBV5 := Lib.hid hbv; have HW6 := Lib.hid hw6; have hz5 := hko.1; clear hown3 t31 t32 t33 hb3 hg3 hko hbv hw6; dsimp only [Act.put]; simp only [List.setIfInBounds_toArray, List.set_cons_succ, List.set_cons_zero])) | (go_wp2_with (first | (go_at_call 38; (with_reducible refine (HCO.out _ (by omega) _ (by exact HBWV.out.trans (Below.mono (w := wv) (by exact blw) HBWV.out.size))).mono ?_); rintro e w_ ⟨rfl, rfl⟩) | (go_at_call 38; (with_reducible refine (HFL.out _ (by omega) _ (by exact HBWV.out.trans (Below.mono (w := wv) (by exact blw) HBWV.out.size))).mono ?_); rintro e w_ ⟨rfl, rfl⟩)))); refine HK_.out _ _ (kepP_ofA) ?_; clear HK_)
            (refine z_run gtA (by rfl) (by rfl) (fun K_ hK_ => ?_); have HK_ := Lib.hid hK_; clear hK_; (first | (((refine wpAppO _ _ 142 rfl V.heap.size 148 (.agg #[.int .u32 0, .int .u32 0, .slice none 0 0]) 3 32 Try.underlying142 info_subR rfl (by decide) _ k (subRV srs) rfl (owns_below HO.out (show Below wv.heap.size wv _ from blw) (Nat.le_refl _)) ⟨wv.heap.size, 0, none⟩ 1 1 [.int .u32 (co : Nat), .int .u32 (fl : Nat), .slice a (p + s - (p + 12)) 0] rfl rfl (has_alloc _ _ _) (fun u hu => by simp at hu; rcases hu with rfl | rfl | rfl <;> rfl) (by unfold maxLen; omega) (by omega) (by simp; omega) ?_); intro a3 c3 w5 hown3 t31 t32 t33 hb3 hg3; have hko : KeptO (fun k_ t_ => t_ = 148 ∧ True) wv w5 := (KeptO.below (show Below wv.heap.size wv _ from blw)).trans (KeptO.grown (owns_below HO.out (show Below wv.heap.size wv _ from blw) (Nat.le_refl _)) hg3 fun m hm => ⟨rfl, trivial⟩); have hbv : Below V.heap.size wv w5 := ((show Below wv.heap.size wv _ from blw).mono hzv).trans hb3; have hw6 := (hko.2 g6 _ _ _ H6R.out (fun h_ => absurd h_.1 (by decide))).trans H6R.out; have s5 := fun o => cell_of_heap hw6 o; have sf := fun o => froz_of_heap hw6 o; have HO5 := Lib.hid hown3; have HKO := Lib.hid hko; have HBV5 := Lib.hid hbv; have HW6 := Lib.hid hw6; have hz5 := hko.1; clear hown3 t31 t32 t33 hb3 hg3 hko hbv hw6; dsimp only [Act.put]; simp only [List.setIfInBounds_toArray, List.set_cons_succ, List.set_cons_zero])) | (go_wp2_with (first | (go_at_call 38; (with_reducible refine (HCO.out _ (by omega) _ (by exact HBWV.out.trans (Below.mono (w := wv) (by exact blw) HBWV.out.size))).mono ?_); rintro e w_ ⟨rfl, rfl⟩) | (go_at_call 38; (with_reducible refine (HFL.out _ (by omega) _ (by exact HBWV.out.trans (Below.mono (w := wv) (by exact blw) HBWV.out.size))).mono ?_); rintro e w_ ⟨rfl, rfl⟩)))); refine HK_.out _ _ (kepP_ofA) ?_; clear HK_)
            (refine z_quiet gtA (by rfl) (by rfl) (fun K_ hK_ => ?_); go_big_quiet_op; refine hK_ _ ?_; clear hK_ K_)
            (refine z_last gtA (by rfl) (by rfl) (by rfl) (fun K_ hK_ => ?_); have HK_ := Lib.hid hK_; clear hK_; (first | (((refine wpAppO _ _ 142 rfl V.heap.size 148 (.agg #[.int .u32 0, .int .u32 0, .slice none 0 0]) 3 32 Try.underlying142 info_subR rfl (by decide) _ k (subRV srs) rfl (owns_below HO.out (show Below wv.heap.size wv _ from blw) (Nat.le_refl _)) ⟨wv.heap.size, 0, none⟩ 1 1 [.int .u32 (co : Nat), .int .u32 (fl : Nat), .slice a (p + s - (p + 12)) 0] rfl rfl (has_alloc _ _ _) (fun u hu => by simp at hu; rcases hu with rfl | rfl | rfl <;> rfl) (by unfold maxLen; omega) (by omega) (by simp; omega) ?_); intro a3 c3 w5 hown3 t31 t32 t33 hb3 hg3; have hko : KeptO (fun k_ t_ => t_ = 148 ∧ True) wv w5 := (KeptO.below (show Below wv.heap.size wv _ from blw)).trans (KeptO.grown (owns_below HO.out (show Below wv.heap.size wv _ from blw) (Nat.le_refl _)) hg3 fun m hm => ⟨rfl, trivial⟩); have hbv : Below V.heap.size wv w5 := ((show Below wv.heap.size wv _ from blw).mono hzv).trans hb3; have hw6 := (hko.2 g6 _ _ _ H6R.out (fun h_ => absurd h_.1 (by decide))).trans H6R.out; have s5 := fun o => cell_of_heap hw6 o; have sf := fun o => froz_of_heap hw6 o; have HO5 := Lib.hid hown3; have HKO := Lib.hid hko; have HBV5 := Lib.hid hbv; have HW6 := Lib.hid hw6; have hz5 := hko.1; clear hown3 t31 t32 t33 hb3 hg3 hko hbv hw6; dsimp only [Act.put]; simp only [List.setIfInBounds_toArray, List.set_cons_succ, List.set_cons_zero])) | (go_wp2_with (first | (go_at_call 38; (with_reducible refine (HCO.out _ (by omega) _ (by exact HBWV.out.trans (Below.mono (w := wv) (by exact blw) HBWV.out.size))).mono ?_); rintro e w_ ⟨rfl, rfl⟩) | (go_at_call 38; (with_reducible refine (HFL.out _ (by omega) _ (by exact HBWV.out.trans (Below.mono (w := wv) (by exact blw) HBWV.out.size))).mono ?_); rintro e w_ ⟨rfl, rfl⟩)))); refine HK_.out _ _ ?_; clear HK_)
            refine z_nil ?_
            clear hK0_
            clear s5 sf k6 f6 h6
            go_wp2_with fail
            go_roundw
            case rel =>
              have hs12 : p + s - (p + 12) = s - 12 := by omega
              have hdd := HH.out.adv (p + 12) (p + 12) (by rw [bytesV_length, HL.out]; exact hn)
              have hdt := hdd.take (s - 12)
              rw [bytesV_drop, bytesV_take] at hdt
              refine ⟨k + 1, srs ++ [⟨co, fl, a, s - 12, 0, (cb.drop (p + 12)).take (s - 12)⟩], a3, c3, hlt, (by rw [HPS.out]; go_num), by go_num, by rw [List.length_append, hsl]; rfl, HFS.out, ?_, ?_, set_heap_at (o := 2) (.slice a3 (k + 1) c3) HW6.out, ?_, ?_, (HBVV.out.trans HBV5.out).setCell (p := ⟨g6, 2, none⟩) (by show V.heap.size ≤ g6; omega) _⟩
              · rw [List.map_append, HDS.out, HSDK.out, HSB.out]
                rfl
              · intro x hx
                rcases List.mem_append.1 hx with hx | hx
                · exact HEACH.out x hx
                · simp only [List.mem_singleton] at hx
                  subst hx
                  refine ⟨by have := hdt; simpa [adv] using this, ?_, ?_, ?_⟩
                  · show ((cb.drop (p + 12)).take (s - 12)).length = s - 12
                    rw [List.length_take, List.length_drop, HL.out]
                    omega
                  · show s - 12 ≤ 0
                    omega
                  · show 0 ≤ maxLen
                    omega
              · rw [subRV_snoc]
                have := HO5.out
                rw [hs12] at this
                exact set_owns _ this (own_neE this HW6.out (by decide))
              · exact (HRU.out.keptO HKO.out (fun k h_ => absurd h_.1 (by decide))).set HW6.out (by decide) 2 _
            case measure => simp [Go.RowKit.intOf]; omega
          case neg =>
            refine wp_region_lastY (.step 0 (.step 1 (.step 2 (.step 3 (.step 4 (.step 7 (.step 8 (.step 9 (.step 12 (.step 13 (.step 14 (.step 15 (.step 16 (.step 17 (.step 18 (.step 5 (.step 6 (.step 10 (.step 11 (.step 19 (.step 20 (.step 21 (.step 22 (.step 23 .nil)))))))))))))))))))))))) 23 (by kernel_rfl) (by kernel_rfl) (by kernel_rfl) (by kernel_rfl) (by kernel_rfl) (by intro _ _ d_ _ _ h_; cases d_ <;> first | exact h_ | (dsimp +zetaDelta only at h_ ⊢; exact h_)) (fun w' => ∃ p : KepP (fun k_ t_ => t_ = 148 ∧ True) wv, w' = p.val) (kepP_start _ _) ?_
            have hK0_ := fun (p : KepP (fun k_ t_ => t_ = 148 ∧ True) wv) (o : Nat) => p.is.cell h6 (by first | (intro h_; exact absurd h_.1 (by decide)) | (intro h_; exact h_.2 rfl) | (intro h_; rcases h_ with h_ | h_ | h_ <;> exact absurd h_ (by decide)) | (intro h_; rcases h_ with h_ | h_ <;> exact absurd h_ (by decide))) o
            (refine z_quiet gtA (by rfl) (by rfl) (fun K_ hK_ => ?_); go_big_quiet_op; refine hK_ _ ?_; clear hK_ K_)
            (refine z_quiet gtA (by rfl) (by rfl) (fun K_ hK_ => ?_); go_big_quiet_op; refine hK_ _ ?_; clear hK_ K_)
            (refine z_quiet gtA (by rfl) (by rfl) (fun K_ hK_ => ?_); go_big_quiet_op; refine hK_ _ ?_; clear hK_ K_)
            (refine z_quiet gtA (by rfl) (by rfl) (fun K_ hK_ => ?_); go_big_quiet_op; refine hK_ _ ?_; clear hK_ K_)
            (refine z_quiet gtA (by rfl) (by rfl) (fun K_ hK_ => ?_); go_big_quiet_op; refine hK_ _ ?_; clear hK_ K_)
            (refine z_quiet gtA (by rfl) (by rfl) (fun K_ hK_ => ?_); go_big_quiet_op; refine hK_ _ ?_; clear hK_ K_)
            (refine z_quiet gtA (by rfl) (by rfl) (fun K_ hK_ => ?_); go_big_quiet_op; refine hK_ _ ?_; clear hK_ K_)
            (refine z_quiet gtA (by rfl) (by rfl) (fun K_ hK_ => ?_); go_big_quiet_op; refine hK_ _ ?_; clear hK_ K_)
            (refine z_quiet gtA (by rfl) (by rfl) (fun K_ hK_ => ?_); go_big_quiet_op; refine hK_ _ ?_; clear hK_ K_)
            (refine z_quiet gtA (by rfl) (by rfl) (fun K_ hK_ => ?_); go_big_quiet_op; refine hK_ _ ?_; clear hK_ K_)
            (refine z_quiet gtA (by rfl) (by rfl) (fun K_ hK_ => ?_); go_big_quiet_op; refine hK_ _ ?_; clear hK_ K_)
            (refine z_quiet gtA (by rfl) (by rfl) (fun K_ hK_ => ?_); go_big_quiet_op; refine hK_ _ ?_; clear hK_ K_)
            (refine z_quiet gtA (by rfl) (by rfl) (fun K_ hK_ => ?_); go_big_quiet_op; refine hK_ _ ?_; clear hK_ K_)
            (refine z_quiet gtA (by rfl) (by rfl) (fun K_ hK_ => ?_); go_big_quiet_op; refine hK_ _ ?_; clear hK_ K_)
            (refine z_quiet gtA (by rfl) (by rfl) (fun K_ hK_ => ?_); go_big_quiet_op; refine hK_ _ ?_; clear hK_ K_)
            (refine z_run gtA (by rfl) (by rfl) (fun K_ hK_ => ?_); have HK_ := Lib.hid hK_; clear hK_; (first | (((refine wpAppO _ _ 142 rfl V.heap.size 148 (.agg #[.int .u32 0, .int .u32 0, .slice none 0 0]) 3 32 Try.underlying142 info_subR rfl (by decide) _ k (subRV srs) rfl (owns_below HO.out (show Below wv.heap.size wv _ from blw) (Nat.le_refl _)) ⟨wv.heap.size, 0, none⟩ 1 1 [.int .u32 (co : Nat), .int .u32 (fl : Nat), .slice (Option.map (fun x => x.add (p + 12)) a) (p + s - (p + 12)) (c - (p + 12))] rfl rfl (has_alloc _ _ _) (fun u hu => by simp at hu; rcases hu with rfl | rfl | rfl <;> rfl) (by unfold maxLen; omega) (by omega) (by simp; omega) ?_); intro a3 c3 w5 hown3 t31 t32 t33 hb3 hg3; have hko : KeptO (fun k_ t_ => t_ = 148 ∧ True) wv w5 := (KeptO.below (show Below wv.heap.size wv _ from blw)).trans (KeptO.grown (owns_below HO.out (show Below wv.heap.size wv _ from blw) (Nat.le_refl _)) hg3 fun m hm => ⟨rfl, trivial⟩); have hbv : Below V.heap.size wv w5 := ((show Below wv.heap.size wv _ from blw).mono hzv).trans hb3; have hw6 := (hko.2 g6 _ _ _ H6R.out (fun h_ => absurd h_.1 (by decide))).trans H6R.out; have s5 := fun o => cell_of_heap hw6 o; have sf := fun o => froz_of_heap hw6 o; have HO5 := Lib.hid hown3; have HKO := Lib.hid hko; have HBV5 := Lib.hid hbv; have HW6 := Lib.hid hw6; have hz5 := hko.1; clear hown3 t31 t32 t33 hb3 hg3 hko hbv hw6; dsimp only [Act.put]; simp only [List.setIfInBounds_toArray, List.set_cons_succ, List.set_cons_zero])) | (go_wp2_with (first | (go_at_call 38; (with_reducible refine (HCO.out _ (by omega) _ (by exact HBWV.out.trans (Below.mono (w := wv) (by exact blw) HBWV.out.size))).mono ?_); rintro e w_ ⟨rfl, rfl⟩) | (go_at_call 38; (with_reducible refine (HFL.out _ (by omega) _ (by exact HBWV.out.trans (Below.mono (w := wv) (by exact blw) HBWV.out.size))).mono ?_); rintro e w_ ⟨rfl, rfl⟩)))); refine HK_.out _ _ (kepP_ofA) ?_; clear HK_)
            (refine z_quiet gtA (by rfl) (by rfl) (fun K_ hK_ => ?_); go_big_quiet_op; refine hK_ _ ?_; clear hK_ K_)
            (refine z_run gtA (by rfl) (by rfl) (fun K_ hK_ => ?_); have HK_ := Lib.hid hK_; clear hK_; (first | (((refine wpAppO _ _ 142 rfl V.heap.size 148 (.agg #[.int .u32 0, .int .u32 0, .slice none 0 0]) 3 32 Try.underlying142 info_subR rfl (by decide) _ k (subRV srs) rfl (owns_below HO.out (show Below wv.heap.size wv _ from blw) (Nat.le_refl _)) ⟨wv.heap.size, 0, none⟩ 1 1 [.int .u32 (co : Nat), .int .u32 (fl : Nat), .slice (Option.map (fun x => x.add (p + 12)) a) (p + s - (p + 12)) (c - (p + 12))] rfl rfl (has_alloc _ _ _) (fun u hu => by simp at hu; rcases hu with rfl | rfl | rfl <;> rfl) (by unfold maxLen; omega) (by omega) (by simp; omega) ?_); intro a3 c3 w5 hown3 t31 t32 t33 hb3 hg3; have hko : KeptO (fun k_ t_ => t_ = 148 ∧ True) wv w5 := (KeptO.below (show Below wv.heap.size wv _ from blw)).trans (KeptO.grown (owns_below HO.out (show Below wv.heap.size wv _ from blw) (Nat.le_refl _)) hg3 fun m hm => ⟨rfl, trivial⟩); have hbv : Below V.heap.size wv w5 := ((show Below wv.heap.size wv _ from blw).mono hzv).trans hb3; have hw6 := (hko.2 g6 _ _ _ H6R.out (fun h_ => absurd h_.1 (by decide))).trans H6R.out; have s5 := fun o => cell_of_heap hw6 o; have sf := fun o => froz_of_heap hw6 o; have HO5 := Lib.hid hown3; have HKO := Lib.hid hko; have HBV5 := Lib.hid hbv; have HW6 := Lib.hid hw6; have hz5 := hko.1; clear hown3 t31 t32 t33 hb3 hg3 hko hbv hw6; dsimp only [Act.put]; simp only [List.setIfInBounds_toArray, List.set_cons_succ, List.set_cons_zero])) | (go_wp2_with (first | (go_at_call 38; (with_reducible refine (HCO.out _ (by omega) _ (by exact HBWV.out.trans (Below.mono (w := wv) (by exact blw) HBWV.out.size))).mono ?_); rintro e w_ ⟨rfl, rfl⟩) | (go_at_call 38; (with_reducible refine (HFL.out _ (by omega) _ (by exact HBWV.out.trans (Below.mono (w := wv) (by exact blw) HBWV.out.size))).mono ?_); rintro e w_ ⟨rfl, rfl⟩)))); refine HK_.out _ _ (kepP_ofA) ?_; clear HK_)
            (refine z_quiet gtA (by rfl) (by rfl) (fun K_ hK_ => ?_); go_big_quiet_op; refine hK_ _ ?_; clear hK_ K_)
            (refine z_quiet gtA (by rfl) (by rfl) (fun K_ hK_ => ?_); go_big_quiet_op; refine hK_ _ ?_; clear hK_ K_)
            (refine z_run gtA (by rfl) (by rfl) (fun K_ hK_ => ?_); have HK_ := Lib.hid hK_; clear hK_; (first | (((refine wpAppO _ _ 142 rfl V.heap.size 148 (.agg #[.int .u32 0, .int .u32 0, .slice none 0 0]) 3 32 Try.underlying142 info_subR rfl (by decide) _ k (subRV srs) rfl (owns_below HO.out (show Below wv.heap.size wv _ from blw) (Nat.le_refl _)) ⟨wv.heap.size, 0, none⟩ 1 1 [.int .u32 (co : Nat), .int .u32 (fl : Nat), .slice (Option.map (fun x => x.add (p + 12)) a) (p + s - (p + 12)) (c - (p + 12))] rfl rfl (has_alloc _ _ _) (fun u hu => by simp at hu; rcases hu with rfl | rfl | rfl <;> rfl) (by unfold maxLen; omega) (by omega) (by simp; omega) ?_); intro a3 c3 w5 hown3 t31 t32 t33 hb3 hg3; have hko : KeptO (fun k_ t_ => t_ = 148 ∧ True) wv w5 := (KeptO.below (show Below wv.heap.size wv _ from blw)).trans (KeptO.grown (owns_below HO.out (show Below wv.heap.size wv _ from blw) (Nat.le_refl _)) hg3 fun m hm => ⟨rfl, trivial⟩); have hbv : Below V.heap.size wv w5 := ((show Below wv.heap.size wv _ from blw).mono hzv).trans hb3; have hw6 := (hko.2 g6 _ _ _ H6R.out (fun h_ => absurd h_.1 (by decide))).trans H6R.out; have s5 := fun o => cell_of_heap hw6 o; have sf := fun o => froz_of_heap hw6 o; have HO5 := Lib.hid hown3; have HKO := Lib.hid hko; have HBV5 := Lib.hid hbv; have HW6 := Lib.hid hw6; have hz5 := hko.1; clear hown3 t31 t32 t33 hb3 hg3 hko hbv hw6; dsimp only [Act.put]; simp only [List.setIfInBounds_toArray, List.set_cons_succ, List.set_cons_zero])) | (go_wp2_with (first | (go_at_call 38; (with_reducible refine (HCO.out _ (by omega) _ (by exact HBWV.out.trans (Below.mono (w := wv) (by exact blw) HBWV.out.size))).mono ?_); rintro e w_ ⟨rfl, rfl⟩) | (go_at_call 38; (with_reducible refine (HFL.out _ (by omega) _ (by exact HBWV.out.trans (Below.mono (w := wv) (by exact blw) HBWV.out.size))).mono ?_); rintro e w_ ⟨rfl, rfl⟩)))); refine HK_.out _ _ (kepP_ofA) ?_; clear HK_)
            (refine z_run gtA (by rfl) (by rfl) (fun K_ hK_ => ?_); have HK_ := Lib.hid hK_; clear hK_; (first | (((refine wpAppO _ _ 142 rfl V.heap.size 148 (.agg #[.int .u32 0, .int .u32 0, .slice none 0 0]) 3 32 Try.underlying142 info_subR rfl (by decide) _ k (subRV srs) rfl (owns_below HO.out (show Below wv.heap.size wv _ from blw) (Nat.le_refl _)) ⟨wv.heap.size, 0, none⟩ 1 1 [.int .u32 (co : Nat), .int .u32 (fl : Nat), .slice (Option.map (fun x => x.add (p + 12)) a) (p + s - (p + 12)) (c - (p + 12))] rfl rfl (has_alloc _ _ _) (fun u hu => by simp at hu; rcases hu with rfl | rfl | rfl <;> rfl) (by unfold maxLen; omega) (by omega) (by simp; omega) ?_); intro a3 c3 w5 hown3 t31 t32 t33 hb3 hg3; have hko : KeptO (fun k_ t_ => t_ = 148 ∧ True) wv w5 := (KeptO.below (show Below wv.heap.size wv _ from blw)).trans (KeptO.grown (owns_below HO.out (show Below wv.heap.size wv _ from blw) (Nat.le_refl _)) hg3 fun m hm => ⟨rfl, trivial⟩); have hbv : Below V.heap.size wv w5 := ((show Below wv.heap.size wv _ from blw).mono hzv).trans hb3; have hw6 := (hko.2 g6 _ _ _ H6R.out (fun h_ => absurd h_.1 (by decide))).trans H6R.out; have s5 := fun o => cell_of_heap hw6 o; have sf := fun o => froz_of_heap hw6 o; have HO5 := Lib.hid hown3; have HKO := Lib.hid hko; have HBV5 := Lib.hid hbv; have HW6 := Lib.hid hw6; have hz5 := hko.1; clear hown3 t31 t32 t33 hb3 hg3 hko hbv hw6; dsimp only [Act.put]; simp only [List.setIfInBounds_toArray, List.set_cons_succ, List.set_cons_zero])) | (go_wp2_with (first | (go_at_call 38; (with_reducible refine (HCO.out _ (by omega) _ (by exact HBWV.out.trans (Below.mono (w := wv) (by exact blw) HBWV.out.size))).mono ?_); rintro e w_ ⟨rfl, rfl⟩) | (go_at_call 38; (with_reducible refine (HFL.out _ (by omega) _ (by exact HBWV.out.trans (Below.mono (w := wv) (by exact blw) HBWV.out.size))).mono ?_); rintro e w_ ⟨rfl, rfl⟩)))); refine HK_.out _ _ (kepP_ofA) ?_; clear HK_)
            (refine z_quiet gtA (by rfl) (by rfl) (fun K_ hK_ => ?_); go_big_quiet_op; refine hK_ _ ?_; clear hK_ K_)
            (refine z_last gtA (by rfl) (by rfl) (by rfl) (fun K_ hK_ => ?_); have HK_ := Lib.hid hK_; clear hK_; (first | (((refine wpAppO _ _ 142 rfl V.heap.size 148 (.agg #[.int .u32 0, .int .u32 0, .slice none 0 0]) 3 32 Try.underlying142 info_subR rfl (by decide) _ k (subRV srs) rfl (owns_below HO.out (show Below wv.heap.size wv _ from blw) (Nat.le_refl _)) ⟨wv.heap.size, 0, none⟩ 1 1 [.int .u32 (co : Nat), .int .u32 (fl : Nat), .slice (Option.map (fun x => x.add (p + 12)) a) (p + s - (p + 12)) (c - (p + 12))] rfl rfl (has_alloc _ _ _) (fun u hu => by simp at hu; rcases hu with rfl | rfl | rfl <;> rfl) (by unfold maxLen; omega) (by omega) (by simp; omega) ?_); intro a3 c3 w5 hown3 t31 t32 t33 hb3 hg3; have hko : KeptO (fun k_ t_ => t_ = 148 ∧ True) wv w5 := (KeptO.below (show Below wv.heap.size wv _ from blw)).trans (KeptO.grown (owns_below HO.out (show Below wv.heap.size wv _ from blw) (Nat.le_refl _)) hg3 fun m hm => ⟨rfl, trivial⟩); have hbv : Below V.heap.size wv w5 := ((show Below wv.heap.size wv _ from blw).mono hzv).trans hb3; have hw6 := (hko.2 g6 _ _ _ H6R.out (fun h_ => absurd h_.1 (by decide))).trans H6R.out; have s5 := fun o => cell_of_heap hw6 o; have sf := fun o => froz_of_heap hw6 o; have HO5 := Lib.hid hown3; have HKO := Lib.hid hko; have HBV5 := Lib.hid hbv; have HW6 := Lib.hid hw6; have hz5 := hko.1; clear hown3 t31 t32 t33 hb3 hg3 hko hbv hw6; dsimp only [Act.put]; simp only [List.setIfInBounds_toArray, List.set_cons_succ, List.set_cons_zero])) | (go_wp2_with (first | (go_at_call 38; (with_reducible refine (HCO.out _ (by omega) _ (by exact HBWV.out.trans (Below.mono (w := wv) (by exact blw) HBWV.out.size))).mono ?_); rintro e w_ ⟨rfl, rfl⟩) | (go_at_call 38; (with_reducible refine (HFL.out _ (by omega) _ (by exact HBWV.out.trans (Below.mono (w := wv) (by exact blw) HBWV.out.size))).mono ?_); rintro e w_ ⟨rfl, rfl⟩)))); refine HK_.out _ _ ?_; clear HK_)
            refine z_nil ?_
            clear hK0_
            clear s5 sf k6 f6 h6
            go_wp2_with fail
            go_roundw
            case rel =>
              have hs12 : p + s - (p + 12) = s - 12 := by omega
              have hdd := HH.out.adv c (p + 12) (by rw [bytesV_length, HL.out]; exact hn)
              have hdt := hdd.take (s - 12)
              rw [bytesV_drop, bytesV_take] at hdt
              refine ⟨k + 1, srs ++ [⟨co, fl, Option.map (fun x => x.add (p + 12)) a, s - 12, c - (p + 12), (cb.drop (p + 12)).take (s - 12)⟩], a3, c3, hlt, (by rw [HPS.out]; go_num), by go_num, by rw [List.length_append, hsl]; rfl, HFS.out, ?_, ?_, set_heap_at (o := 2) (.slice a3 (k + 1) c3) HW6.out, ?_, ?_, (HBVV.out.trans HBV5.out).setCell (p := ⟨g6, 2, none⟩) (by show V.heap.size ≤ g6; omega) _⟩
              · rw [List.map_append, HDS.out, HSDK.out, HSB.out]
                rfl
              · intro x hx
                rcases List.mem_append.1 hx with hx | hx
                · exact HEACH.out x hx
                · simp only [List.mem_singleton] at hx
                  subst hx
                  refine ⟨by have := hdt; rwa [adv, if_neg hcp] at this, ?_, ?_, ?_⟩
                  · show ((cb.drop (p + 12)).take (s - 12)).length = s - 12
                    rw [List.length_take, List.length_drop, HL.out]
                    omega
                  · show s - 12 ≤ c - (p + 12)
                    omega
                  · show c - (p + 12) ≤ maxLen
                    omega
              · rw [subRV_snoc]
                have := HO5.out
                rw [hs12] at this
                exact set_owns _ this (own_neE this HW6.out (by decide))
              · exact (HRU.out.keptO HKO.out (fun k h_ => absurd h_.1 (by decide))).set HW6.out (by decide) 2 _
            case measure => simp [Go.RowKit.intOf]; omega
        · obtain rfl : M = k := by omega
          have dk : decide ((M : Int) < (M : Int)) = false := by simp
          go_wp2_with fail
          refine bodyPost_ret (v := .tuple #[.agg #[.int .u32 (F0 : Nat), .slice aR N cR, .slice aS M cS], .bool true]) (by simp [results, Try.results58, go_sem, k2, l2]) rfl ?_
          obtain ⟨_, _, heq, hcS, hmS, _⟩ := owns_slice HO.out
          cases heq
          have e2 := (HBVV.out.block _ (by omega)).trans H2V.out
          have e3 := set_heap_at (o := 0) (.int .u32 (F0 : Nat)) e2
          have e4 := set_heap_at (o := 1) (.slice aR N cR) e3
          refine ⟨.inl ⟨⟨F0, aR, cR, aS, cS, rulesD cb N, srs⟩, HCH.out hrow HFIT.out, ?_, ?_, ⟨?_, ?_, ?_, hmR, ?_, hmS⟩, HEACH.out⟩, bset (bset (bset HBWV.out (p := ⟨w.heap.size, 0, none⟩) (Nat.le_refl _) _) (p := ⟨w.heap.size, 1, none⟩) (Nat.le_refl _) _) (p := ⟨w.heap.size, 2, none⟩) (Nat.le_refl _) _⟩
          · rw [HD.out]
            show ChD.mk F0 (rulesD cb N) (srs.map SubR.d) = _
            rw [HDS.out]
          · show _ = Ending.returned (.tuple #[.agg #[.int .u32 (F0 : Nat), .slice aR (rulesD cb N).length cR, .slice aS srs.length cS], .bool true])
            rw [HRL.out, hsl]
          · exact ((HRU.out.set e2 (by decide) 0 _).set e3 (by decide) 1 _).set e4 (by decide) 2 _
          · exact (((hasT_of_owns HO.out).set e2 (by decide) 0 _).set e3 (by decide) 1 _).set e4 (by decide) 2 _
          · show (rulesD cb N).length ≤ cR
            rw [HRL.out]; exact hcR
          · show srs.length ≤ cS
            rw [hsl]; exact hcS
end Go.Proofs.Ythehcbbdkiomnaa
end
