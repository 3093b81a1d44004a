
/- That package pick speaks. No condition. -/
import Derived.Test.YtfnghinefbmlmaaPickO
namespace Go.Proofs.Ytfnghinefbmlmaa
open Go.RowKit Go.Lib

theorem fe_none (w : World) : FeOk w none 0 0 [] := ⟨Has.nil _ _, rfl, Nat.zero_le _, fun f hf => by cases hf⟩
theorem wfI_small {n : Int} (h : 0 ≤ n ∧ n ≤ 65535) : wfI n := wfI_of (by omega) (by omega)
theorem speak_set {rs : List St} (h : SetS (exF []) [(1, 2), (1, 3)] rs) : rs = [(1, 3)] := by
  refine h.one ⟨List.pairwise_singleton _ _, fun t => ?_⟩
  have e : onS (exF []) [(1, 2), (1, 3)] t = (overS (exF []) (1, 3) t && ((1, 3) == t)) := by
    have h1 := on_snoc (exF []) [(1, 2)] (1, 3) t
    have h2 := on_snoc (exF []) [] (1, 2) t
    have h3 : overS (exF []) (1, 2) t = overS (exF []) (1, 3) t := rfl
    have r1 : rightS (1, 2) = true := by decide
    have r2 : rightS (1, 3) = true := by decide
    simp only [List.nil_append, List.cons_append] at h1 h2
    rw [h1, h2, h3, r1, r2, on_nil]
    cases overS (exF []) (1, 3) t <;> rfl
  rw [e, List.mem_singleton, Bool.and_eq_true, beq_iff_eq]
  constructor
  · rintro rfl
    exact ⟨by decide, rfl⟩
  · exact fun h => h.2.symm
theorem gv2 : gv [(1, 2), (1, 3)] = [.int .i64 1, .int .i64 2, .int .i64 1, .int .i64 3] := rfl
theorem speak_flags {rs : List St} (h : SetS (exF []) [(1, 2), (1, 3)] rs) (hr : rs = [(1, 3)]) : flagsF (onS (exF []) [(1, 2), (1, 3)]) 6 [⟨(1, 3), 1, 3⟩] = 3 := by
  have h1 : onS (exF []) [(1, 2), (1, 3)] (1, 3) = true := (h.2 (1, 3)).1 (by rw [hr]; simp)
  show (if onS (exF []) [(1, 2), (1, 3)] (1, 3) then andOr 6 ⟨(1, 3), 1, 3⟩ else 6) = 3
  rw [h1, if_pos rfl]
  rfl
set_option maxRecDepth 100000 in
set_option maxHeartbeats 2000000 in
theorem speaks9_any (w : World) : Calls Try.prog 14 #[] w fun e w' => e = .returned (.bool true) ∧ Below w.heap.size w w' := by
  have hAC := allocC
  have hAF := allocF
  have HST := Lib.hid (show Calls Try.prog 17 #[.slice (some ⟨w.heap.size, 0, none⟩) 2 2, .slice none 0 0] (w.alloc (.cells #[.int .i64 1, .int .i64 2, .int .i64 1, .int .i64 3] 44)) fun e w' => ∃ (a' : Option Addr) (c' : Nat), e = .returned (.slice a' 1 c') ∧ SetOk w' a' 1 c' [(1, 3)] ∧ SetS (exF []) [(1, 2), (1, 3)] [(1, 3)] ∧ 1 ≤ c' ∧ Below w.heap.size w w' from by
    have hb := balloc (brefl w) (.cells #[.int .i64 1, .int .i64 2, .int .i64 1, .int .i64 3] 44)
    refine (settle_any (some ⟨w.heap.size, 0, none⟩) 2 2 [(1, 2), (1, 3)] none 0 0 [] _ ⟨has_alloc _ _ _, rfl, by decide, fun s hs => by
      simp only [List.mem_cons, List.not_mem_nil, or_false] at hs
      rcases hs with rfl | rfl <;> exact ⟨wfI_small (by decide), wfI_small (by decide)⟩⟩ (fe_none _)).mono ?_
    rintro e w' ⟨a', m, c', rs, rfl, hs, hset, _, hmc, _, _, hb'⟩
    obtain rfl := speak_set hset
    obtain rfl : 1 = m := hs.len
    exact ⟨a', c', rfl, hs, hset, hmc, hb.trans (hb'.mono hb.size)⟩)
  have HEQ := eqS (1, 3) (1, 3) ⟨wfI_small (by decide), wfI_small (by decide)⟩ ⟨wfI_small (by decide), wfI_small (by decide)⟩
  rw [show (((1, 3) : St) == (1, 3)) = true from rfl] at HEQ
  simp only at HEQ
  have key : ∀ (a' : Option Addr) (c' : Nat) (w1 : World), SetOk w1 a' 1 c' [(1, 3)] → SetS (exF []) [(1, 2), (1, 3)] [(1, 3)] → ∃ (b o : Nat), a' = some ⟨b, o, none⟩ ∧ b < w1.heap.size ∧ w1.cell? ⟨b, o, none⟩ = some (.int .i64 1) ∧ w1.cell? ⟨b, o + 1, none⟩ = some (.int .i64 3) ∧
      (∀ W, Below w1.heap.size w1 W → Calls Try.prog 19 #[.slice (some ⟨b, o, none⟩) 1 c', .agg #[.int .i64 1, .int .i64 3]] W fun e w' => e = .returned (.bool true) ∧ Below W.heap.size W w') ∧
      (∀ W, Calls Try.prog 20 #[.agg #[.int .i64 1, .int .i64 3]] W fun e w' => e = .returned (.bool true) ∧ Below W.heap.size W w') ∧
      (∀ W, Below w1.heap.size w1 W → Calls Try.prog 22 #[.int .u32 6, .slice (some ⟨W.heap.size, 0, none⟩) 1 1, .slice (some ⟨b, o, none⟩) 1 c'] (W.alloc (.cells #[.int .i64 1, .int .i64 3, .int .u32 1, .int .u32 3] 58)) fun e w' => e = .returned (.int .u32 3) ∧ Below (W.alloc (.cells #[.int .i64 1, .int .i64 3, .int .u32 1, .int .u32 3] 58)).heap.size (W.alloc (.cells #[.int .i64 1, .int .i64 3, .int .u32 1, .int .u32 3] 58)) w') := by
    intro a' c' w1 hs hset
    obtain ⟨b, o, rfl, hbl, c0, c1⟩ := set_cells hs.has (k := 0) (s := (1, 3)) rfl
    simp only [Nat.zero_mul, Nat.add_zero] at c0 c1
    refine ⟨b, o, rfl, hbl, c0, c1, fun W hW => on_any (some ⟨b, o, none⟩) 1 c' [(1, 3)] (1, 3) W (hs.below hW) (List.pairwise_singleton _ _) true rfl, fun W => ?_, fun W hW => ?_⟩
    · have := right_any (1, 3) W
      rwa [show rightS (1, 3) = true by decide] at this
    · have := flags_any 6 (some ⟨W.heap.size, 0, none⟩) 1 1 [⟨(1, 3), 1, 3⟩] (some ⟨b, o, none⟩) 1 c' [(1, 3)] (exF []) [(1, 2), (1, 3)] (W.alloc (.cells #[.int .i64 1, .int .i64 3, .int .u32 1, .int .u32 3] 58)) ⟨has_alloc _ _ _, rfl, by decide, fun r hr => by
        simp only [List.mem_singleton] at hr; subst hr; exact ⟨wfI_small (by decide), wfI_small (by decide)⟩⟩ ((hs.below hW).below (balloc (brefl W) _)) hset
      rwa [speak_flags hset rfl] at this
  have KEY := Lib.hid key
  clear key
  go_enter Try.func14, Try.ntmps14
  go_wp2_with (first | (go_at_call 17; (with_reducible refine HST.out.mono ?_); rintro e w1 ⟨a', c', rfl, hs, hset, hc1, hb1⟩; have hzw := hb1.size; obtain ⟨b, o, rfl, hbl, c0, c1, hO, hR, hF⟩ := KEY.out a' c' w1 hs hset; have HO := Lib.hid hO; have HR := Lib.hid hR; have HF := Lib.hid hF; clear hs hset hO hR hF KEY) | (go_at_call 19; (with_reducible refine (HO.out _ (by exact blw)).mono ?_); rintro e w2 ⟨rfl, hb2⟩; have h2c := bc hb2; have h2f := bf hb2; have h2z := hb2.size; try simp only [World.size_alloc, World.size_drew] at h2z) | (go_at_call 20; (with_reducible refine (HR.out _).mono ?_); rintro e w3 ⟨rfl, hb3⟩; have h3c := bc hb3; have h3f := bf hb3; have h3z := hb3.size; try simp only [World.size_alloc, World.size_drew] at h3z) | (go_at_call 22; (with_reducible refine (HF.out _ (by exact blw)).mono ?_); rintro e w4 ⟨rfl, hb4⟩; have h4c := bc hb4; have h4f := bf hb4; have h4z := hb4.size; try simp only [World.size_alloc, World.size_drew] at h4z))
  go_ret
  exact ⟨rfl, blw⟩
end Go.Proofs.Ytfnghinefbmlmaa
