/- Joined from: JAct JNeed JTake JRead. -/
import Derived.Test.YtaladlaffglkeaaJ16
import Derived.Test.YtaladlaffglkeaaJ02
import Derived.Test.YtaladlaffglkeaaJ01
section

/- liga: bits of actions; numbers of actions, components and ligatures. Conditions: bytes in memory, as many as the slice says. -/
namespace Go.Proofs.Ytaladlaffglkeaa
open Go.RowKit Go.Lib

theorem BHas.keep {L B : Nat} {own : Nat → Nat → Prop} {a : Option Addr} {bs : List UInt8} {w w' : World} (h : BHas L a bs w) (hk : KeepC B own w w') (hL : L ≤ B) (ho : ∀ k, ¬ own k 5) : BHas L a bs w' := by
  have hx : ∀ p, a = some p → p.block < w.heap.size → w'.heap[p.block]? = w.heap[p.block]? := by
    intro p hp hlt
    rcases h.far p hp with h1 | ⟨cs, fz, h1⟩
    · exact hk.below.block _ (by omega)
    · exact hk.kept _ _ _ _ h1 (ho _)
  refine ⟨fun j u hu => ?_, fun p hp => ?_⟩
  · obtain ⟨p, hp, hc⟩ := h.has j u hu
    refine ⟨p, hp, ?_⟩
    have e : w'.heap[(p.add j).block]? = w.heap[(p.add j).block]? := by
      rw [add_block]
      exact hx p hp (by rw [← add_block p j]; exact cell_lt hc)
    rw [World.cell?_of_block e]
    exact hc
  · rcases h.far p hp with h1 | ⟨cs, fz, h1⟩
    · exact .inl h1
    · exact .inr ⟨cs, fz, (hk.kept _ _ _ _ h1 (ho _)).trans h1⟩
theorem BHas.of_owns {L B n c : Nat} {a : Option Addr} {bs : List UInt8} {w : World} (h : w.ownsRow B 5 1 (.slice a n c) n (bytesV bs)) : BHas L a bs w := by
  refine ⟨has_of_owns h, fun p hp => ?_⟩
  rcases h.2 with ⟨hv, _⟩ | ⟨b, cap, cur, hv, _, hh, _⟩
  · injection hv with hv _ _
    rw [hv] at hp
    cases hp
  · injection hv with hv _ _
    rw [hv] at hp
    cases hp
    exact .inr ⟨_, _, hh⟩
theorem BHas.setOther {L g3 o : Nat} {t : TypeId} {a : Option Addr} {bs : List UInt8} {w : World} {cs : Array Value} {fz : Nat × Nat} (h : BHas L a bs w) (hw : w.heap[g3]? = some (.cells cs t fz)) (hL : L ≤ g3) (ht : t ≠ 5) (v : Value) : BHas L a bs (w.setCell ⟨g3, o, none⟩ v) := by
  have hne : ∀ p, a = some p → p.block ≠ g3 := by
    intro p hp he
    rcases h.far p hp with h1 | ⟨cs, fz, h1⟩
    · omega
    · rw [he, hw] at h1
      injection h1 with h1
      injection h1 with _ h2 _
      exact ht h2
  refine ⟨fun j u hu => ?_, fun p hp => ?_⟩
  · obtain ⟨p, hp, hc⟩ := h.has j u hu
    refine ⟨p, hp, ?_⟩
    have e : (w.setCell ⟨g3, o, none⟩ v).heap[(p.add j).block]? = w.heap[(p.add j).block]? := by
      rw [add_block]
      exact set_heap_other _ (hne p hp)
    rw [World.cell?_of_block e]
    exact hc
  · rcases h.far p hp with h1 | ⟨cs, fz, h1⟩
    · exact .inl h1
    · exact .inr ⟨cs, fz, (set_heap_other _ (hne p hp)).trans h1⟩

end Go.Proofs.Ytaladlaffglkeaa
end
section

/- liga: from each action that an entry begins with they are there, up to a last one, or it throws. Conditions: a machine in memory, and actions as the slice says. -/
namespace Go.Proofs.Ytaladlaffglkeaa
open Go.RowKit Go.Lib

end Go.Proofs.Ytaladlaffglkeaa
end
section

/- liga.Take: such a subtable that a View begins with, or it throws. Conditions: as many bytes as the slice says. -/
namespace Go.Proofs.Ytaladlaffglkeaa
open Go.RowKit Go.Lib

end Go.Proofs.Ytaladlaffglkeaa
end
section

/- liga.Read: such a subtable that bytes begin with, upon bytes of its own. Conditions: as many bytes as the slice says, no more than a hundred million; glyphs as an int. -/
namespace Go.Proofs.Ytaladlaffglkeaa
open Go.RowKit Go.Lib

theorem info_bytes : (Try.prog.info? 5).map (fun i => (i.zero, i.size, i.bytes)) = some (some (.int .u8 0), 1, 1) := by kernel_rfl
theorem nil_none (n c : Nat) (w : World) : (binOp .eql 22 (.slice none n c) (.slice none 0 0)).run Try.prog w = .ok (.bool true) w := by kernel_rfl
theorem nil_some (p : Addr) (n c : Nat) (w : World) : (binOp .eql 22 (.slice (some p) n c) (.slice none 0 0)).run Try.prog w = .ok (.bool false) w := by kernel_rfl
set_option maxRecDepth 100000 in
set_option maxHeartbeats 1600000 in
theorem bclone_any (a : Option Addr) (n c : Nat) (bs : List UInt8) (w : World) (h : Has w a (bytesV bs)) (hl : bs.length = n) (hsz : n ≤ 100000000) :
    Calls Try.prog 49 #[.slice a n c] w fun e w' => ∃ a' c', e = .returned (.slice a' n c') ∧ w'.ownsRow w.heap.size 5 1 (.slice a' n c') n (bytesV bs) ∧ n ≤ c' ∧ c' ≤ maxLen ∧ Below w.heap.size w w' := by
  have hAC := allocC
  have hAF := allocF
  have hN1 := nil_none
  have hN2 := nil_some
  have HH := Lib.hid h
  have HL := Lib.hid hl
  cases a with
  | none =>
    obtain rfl : bs = [] := by
      cases bs with
      | nil => rfl
      | cons x bs =>
        obtain ⟨p, hp, _⟩ := h 0 _ rfl
        cases hp
    obtain rfl : n = 0 := by rw [← hl]; rfl
    clear h hl
    go_enter Try.func49, Try.ntmps49
    go_wp2_with fail
    go_ret
    exact ⟨none, 0, rfl, World.ownsRow_nil _ _ _ _, Nat.le_refl _, Nat.zero_le _, brefl _⟩
  | some p =>
    clear h hl
    go_enter Try.func49, Try.ntmps49
    go_wp2_with (at_builtin; refine wpApp rfl _ _ 22 rfl w.heap.size 5 (.int .u8 0) 1 1 Try.underlying22 info_bytes rfl (by decide) _ 0 [] rfl (World.ownsRow_lit w #[] 0 (Nat.le_refl _) (by decide) rfl) (some p) n c (bytesV bs) rfl (by rw [bytesV_length, HL.out, Nat.mul_one]) (HH.out.below (balloc (brefl _) _)) (fun h => by cases h) (by intro u hu; simp only [bytesV, List.mem_map] at hu; obtain ⟨z, _, rfl⟩ := hu; rfl) (by unfold maxLen; omega) (by omega) (by simp) ?_; intro a' c' w' h1 h2 h3 h4 h5 h6; have H1 := Lib.hid h1; have H5 := Lib.hid h5; rw [Nat.zero_add] at h2; clear h1 h4 h5 h6)
    go_ret
    refine ⟨a', c', by first | rfl | (rw [Nat.zero_add]), ?_, h2, h3, ?_⟩
    · have := H1.out
      first | exact this | (rw [Nat.zero_add] at this; exact this)
    · exact (balloc (brefl w) _).trans H5.out
end Go.Proofs.Ytaladlaffglkeaa
end
