
/- slices.Clone of parts, and slices.SortFunc of none. Condition: fewer than 2^40 parts. -/
import Derived.Test.YthacabmnnpibkaaPSort
namespace Go.Proofs.Ythacabmnnpibkaa
open Go.RowKit

theorem part_info : (Try.prog.info? 49).map (fun i => (i.zero, i.size, i.bytes)) = some (some (.agg #[.string .empty, .slice none 0 0]), 2, 40) := by kernel_rfl
theorem encAll_one (ps : List PartV) : ∀ u ∈ encAll ps, u.oneCell' = true := by
  intro u hu
  simp only [encAll, List.mem_flatMap, PartV.enc, List.mem_cons, List.not_mem_nil, or_false] at hu
  obtain ⟨p, _, rfl | rfl⟩ := hu <;> rfl
theorem eqp_nil (w : World) (n c : Nat) : (binOp .eql 50 (.slice none n c) (.slice none 0 0)).run Try.prog w = .ok (.bool true) w := by kernel_rfl
theorem eqp_some (w : World) (p : Addr) (n c : Nat) : (binOp .eql 50 (.slice (some p) n c) (.slice none 0 0)).run Try.prog w = .ok (.bool false) w := by kernel_rfl

set_option maxHeartbeats 800000 in
theorem pclone_any (a : Option Addr) (n c : Nat) (ps : List PartV) (w : World) (h : Has w a (encAll ps)) (hl : ps.length = n) (hn2 : n ≤ 1099511627776) (hA : a = none → n = 0) :
    Calls Try.prog 29 #[.slice a n c] w fun e w' => ∃ a' c', e = .returned (.slice a' n c') ∧ w'.ownsRow w.heap.size 49 2 (.slice a' n c') n (encAll ps) ∧ n ≤ c' ∧ c' ≤ maxLen ∧ (a' = none → c' = 0) ∧ Below w.heap.size w w' := by
  have HH := Lib.hid h
  have HL := Lib.hid hl
  have hE0 := eqp_nil
  have hE1 := eqp_some
  clear h hl
  cases a with
  | none =>
    obtain rfl := hA rfl
    go_enter Try.func29, Try.ntmps29
    go_wp2
    go_ret
    have h0 : ps = [] := List.eq_nil_of_length_eq_zero HL.out
    subst h0
    exact ⟨none, 0, rfl, World.ownsRow_nil _ _ _ _, Nat.zero_le _, fun _ => rfl, brefl _⟩
  | some p =>
    clear hA
    go_enter Try.func29, Try.ntmps29
    go_wp2_with (at_builtin; refine wpApp rfl _ _ 50 rfl w.heap.size 49 (.agg #[.string .empty, .slice none 0 0]) 2 40 Try.underlying50 part_info rfl (by decide) _ 0 [] rfl (World.ownsRow_lit w #[] 0 (Nat.le_refl _) (by decide) rfl) (some p) n c (encAll ps) rfl (by rw [encAll_length, HL.out]) (HH.out.below (balloc (brefl _) _)) (fun h => by cases h) (encAll_one ps) (by unfold maxLen; omega) (by omega) (by simp) ?_; intro a1 c1 w1 hown k1 k2 k3 hb1 _; have HO := Lib.hid hown; have H3 := Lib.hid k3; clear hown k3)
    go_ret
    have e0 : 0 + n = n := Nat.zero_add n
    exact ⟨a1, c1, by rw [← e0]; rfl, by simpa using HO.out, by omega, k2, H3.out, (balloc (brefl _) _).trans hb1⟩

/-- What a row of the call's own has, cell by cell. -/
theorem own_cells {w : World} {base n : Nat} {a : Option Addr} {c : Nat} {ps : List PartV} (h : w.ownsRow base 49 2 (.slice a n c) n (encAll ps)) (hn : 0 < n) :
    ∃ g, a = some ⟨g, 0, none⟩ ∧ base ≤ g ∧ g < w.heap.size ∧ ∀ j, j < n * 2 → w.frozen? ⟨g, 0 + j, none⟩ = false := by
  rcases h.2 with ⟨hv, rfl⟩ | ⟨g, cap, cur, hv, hb, hg, hnc, _, hs, _⟩
  · omega
  · injection hv with h1 h2 h3
    refine ⟨g, h1, hb, (Array.getElem?_eq_some_iff.1 hg).1, fun j hj => ?_⟩
    simp [World.frozen?, hg]

set_option maxHeartbeats 800000 in
theorem ins_none (c : Nat) (w : World) :
    Calls Try.prog 58 #[.slice none 0 c, .int .i64 0, .int .i64 0, .func (.func 31) #[] #[]] w fun e w' => e = .returned (.tuple #[]) ∧ w = w' := by
  go_enter Try.func58, Try.ntmps58
  go_wp2_with fail
  go_loop [8] (fun i => i = .int .i64 1) (fun _ => 0)
  case atStart => rfl
  case round =>
    obtain rfl := hrel
    go_wp2_with fail
    go_end0
    exact ⟨rfl, rfl⟩

set_option maxHeartbeats 800000 in
theorem pdq_none (c : Nat) (l : Int) (w : World) :
    Calls Try.prog 47 #[.slice none 0 c, .int .i64 0, .int .i64 0, .int .i64 l, .func (.func 31) #[] #[]] w fun e w' => e = .returned (.tuple #[]) ∧ w = w' := by
  go_enter Try.func47, Try.ntmps47
  go_wp2_with fail
  go_loop [1, 2] (fun a b => a = .int .i64 0 ∧ b = .int .i64 0) (fun _ _ => 0)
  case atStart => exact ⟨rfl, rfl⟩
  case round =>
    obtain ⟨rfl, rfl⟩ := hrel
    go_wp2_with ((go_at_call 58; refine (ins_none _ _).mono ?_; rintro e w_ ⟨rfl, rfl⟩))
    exact bodyPost_ret (v := .tuple #[]) (by simp [results, Try.results47, go_sem]) rfl ⟨rfl, rfl⟩

set_option maxHeartbeats 800000 in
theorem sort_none (c : Nat) (w : World) :
    Calls Try.prog 30 #[.slice none 0 c, .func (.func 31) #[] #[]] w fun e w' => e = .returned (.tuple #[]) ∧ w = w' := by
  go_enter Try.func30, Try.ntmps30
  go_wp2_with (first | (go_at_call 48; refine (Try.bits_Len 0 _ (by omega) (by omega)).mono ?_; rintro e w' ⟨rfl, rfl⟩) | (go_at_call 47; refine (pdq_none _ _ _).mono ?_; rintro e w_ ⟨rfl, rfl⟩))
  go_end0
  exact ⟨rfl, rfl⟩
end Go.Proofs.Ythacabmnnpibkaa
