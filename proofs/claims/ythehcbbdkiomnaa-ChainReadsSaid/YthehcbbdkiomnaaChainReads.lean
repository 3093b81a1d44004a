
/- The walk of ChainReads. ChainReads returns true for whatever bytes, and changes nothing: chains are read as the document reads them. No condition beside the row's own. -/
import Derived.Test.YthehcbbdkiomnaaJ01
import Derived.Test.YthehcbbdkiomnaaJ09
import Derived.Test.YthehcbbdkiomnaaJ11
namespace Go.Proofs.Ythehcbbdkiomnaa
open Go.RowKit Go.Lib

theorem bhas_of_has {L : Nat} {a : Option Addr} {bs : List UInt8} {w : World} (h : Has w a (bytesV bs)) (hL : w.heap.size ≤ L) (h0 : 0 < bs.length) : BHas L a bs w := by
  refine ⟨h, fun p hp => .inl ?_⟩
  obtain ⟨q, hq, hc⟩ := h 0 _ (List.getElem?_eq_getElem (by rw [bytesV_length]; exact h0))
  rw [hp] at hq
  cases hq
  have := cell_lt hc
  rw [add_block] at this
  omega
/-- What a list of chains of few bytes has. -/
theorem csd_small {bs : List UInt8} (hl : bs.length ≤ 4000) (hok : CsOk bs) : num bs 4 4 ≤ 4000 ∧ ∀ c ∈ csD bs (num bs 4 4), c.rules.length ≤ 4000 ∧ c.subs.length ≤ 4000 ∧ ∀ s ∈ c.subs, s.data.length ≤ 4000 := by
  have hM := posC_ge (bs := bs) (num bs 4 4) hok.each
  have hM2 := posC_le (bs := bs) hok.len (num bs 4 4) hok.each
  refine ⟨by omega, fun c hc => ?_⟩
  obtain ⟨i, hi, rfl⟩ := List.mem_map.1 hc
  have hf := hok.each i (List.mem_range.1 hi)
  obtain ⟨f1, f2, f3, f4⟩ := hf
  have hol := ownC_length f3
  have hr := f4.rules
  have hs := posS_ge (cb := ownC bs (posC bs i)) (p0 := 16 + 12 * num (ownC bs (posC bs i)) 8 4) _ f4.subs
  have hs2 := posS_le (cb := ownC bs (posC bs i)) (p0 := 16 + 12 * num (ownC bs (posC bs i)) 8 4) hr _ f4.subs
  refine ⟨?_, ?_, fun s hs => ?_⟩
  · show (rulesD _ _).length ≤ 4000
    rw [rulesD_length]; omega
  · show (subsD _ _).length ≤ 4000
    rw [subsD_length]; omega
  · obtain ⟨q, hq, rfl⟩ := List.mem_map.1 hs
    show ((List.drop _ _).take _).length ≤ 4000
    rw [List.length_take, List.length_drop]
    omega
theorem chs_small {bs : List UInt8} {rs : List ChR} {w : World} (hl : bs.length ≤ 4000) (hok : CsOk bs) (hd : rs.map ChR.d = csD bs (num bs 4 4)) (hr : ∀ r ∈ rs, r.In w) : rs.length = num bs 4 4 ∧ rs.length ≤ 4000 ∧ ∀ r ∈ rs, r.rules.length ≤ 4000 ∧ r.subs.length ≤ 4000 ∧ ∀ s ∈ r.subs, s.n ≤ 4000 := by
  obtain ⟨h1, h2⟩ := csd_small hl hok
  have hlen : rs.length = num bs 4 4 := by have := congrArg List.length hd; rwa [List.length_map, csD_length] at this
  refine ⟨hlen, by omega, fun r hm => ?_⟩
  obtain ⟨h3, h4, h5⟩ := h2 r.d (by rw [← hd]; exact List.mem_map_of_mem hm)
  refine ⟨h3, ?_, fun s hs => ?_⟩
  · have : (r.subs.map SubR.d).length ≤ 4000 := h4
    rwa [List.length_map] at this
  · have h6 : s.bs.length ≤ 4000 := h5 s.d (List.mem_map_of_mem hs)
    have := ((hr r hm).each s hs).len
    omega
set_option maxRecDepth 100000 in
set_option maxHeartbeats 6400000 in
theorem chainReads_walk (a : Option Addr) (n c : Nat) (bs : List UInt8) (w : World) (h : Has w a (bytesV bs)) (hl : bs.length = n) (hn : n ≤ c) (hc : c ≤ maxLen) :
    Calls Try.prog 6 #[.slice a n c] w fun e w' => e = .returned (.bool true) ∧ Below w.heap.size w w' := by
  have hAC := allocC
  have hAF := allocF
  have HSP := Lib.hid (fun W (_ : Below w.heap.size w W) => speaks19_any W)
  have HH := Lib.hid h
  have HL := Lib.hid hl
  by_cases h2000 : n ≤ 2000
  case neg =>
    have d1 : decide (2000 < (n : Int)) = true := by simp; omega
    clear h hl h2000
    go_enter Try.func6, Try.ntmps6
    go_wp2_with (first | (go_at_call 21; (with_reducible refine (HSP.out _ (by exact blw)).mono ?_); rintro e w1 ⟨rfl, hb1⟩; have h1c := bc hb1; have h1f := bf hb1; have h1z := hb1.size; try simp only [World.size_alloc, World.size_drew] at h1z))
    go_ret
    exact ⟨rfl, blw⟩
  have d1 : decide (2000 < (n : Int)) = false := by simp; omega
  have d2 : decide (2000 < n) = false := by simp; omega
  have HRD := Lib.hid (fun W (hW : Below w.heap.size w W) => hread_any w.heap.size a n c bs W (fun h0 => (bhas_of_has h (Nat.le_refl _) h0).below hW) hl hn hc (by omega) hW.size)
  have HRF := Lib.hid (fun W (hW : Below w.heap.size w W) => hrefread_any a n c bs W (h.below hW) hl hn hc (by omega))
  clear h hl
  go_enter Try.func6, Try.ntmps6
  go_wp2_with (first | (go_at_call 21; (with_reducible refine (HSP.out _ (by exact blw)).mono ?_); rintro e w1 ⟨rfl, hb1⟩; have h1c := bc hb1; have h1f := bf hb1; have h1z := hb1.size; try simp only [World.size_alloc, World.size_drew] at h1z))
  have HB1 := Lib.hid hb1
  clear h1c h1f h1z hb1
  refine (HRD.out _ HB1.out).mono ?_
  rintro e w2 ⟨(⟨rs, ao, co, hok, hd, rfl, hrs⟩ | ⟨hno, rfl⟩), hb2⟩
  case inr =>
    have HB2 := Lib.hid (HB1.out.trans (hb2.mono HB1.out.size))
    have HNO := Lib.hid hno
    clear hb2 hno
    go_wp2_with fail
    refine (HRF.out _ HB2.out).mono ?_
    rintro e w3 ⟨(⟨_, _, _, hok, _⟩ | ⟨_, rfl⟩), hb3⟩
    · exact absurd hok HNO.out
    have HB3 := Lib.hid (HB2.out.trans (hb3.mono HB2.out.size))
    clear hb3
    go_wp2_with fail
    go_ret
    exact ⟨rfl, HB3.out⟩
  have HB2 := Lib.hid (HB1.out.trans (hb2.mono HB1.out.size))
  have HOK := Lib.hid hok
  have HD := Lib.hid hd
  have HRS := Lib.hid hrs
  clear hb2 hok hd hrs
  obtain ⟨N, hN⟩ : ∃ N, N = rs.length := ⟨_, rfl⟩
  have HN := Lib.hid hN
  rw [← hN]
  clear hN
  go_wp2_with fail
  refine (HRF.out _ HB2.out).mono ?_
  rintro e w3 ⟨(⟨ds, ad, cd, _, hdd, hdl, rfl, hro, hin, hsu⟩ | ⟨hno, _⟩), hb3⟩
  case inr => exact absurd HOK.out hno
  have HB3 := Lib.hid (HB2.out.trans (hb3.mono HB2.out.size))
  have hpin : ∀ r ∈ rs, r.In w3 := fun r hr => (HRS.out.each r hr).toIn.below hb3
  have hqin : ∀ r ∈ ds, r.In w3 := fun r hr => ⟨(hin r hr).rules.1, (hin r hr).subs.1, fun s hs => (hsu r hr s hs).below hb3⟩
  obtain ⟨k1, k2, k3⟩ := chs_small (by rw [HL.out]; omega) HOK.out HD.out hpin
  have hP := (has_of_owns (HRS.out.below hb3).row)
  have hSM := fun W (hW : Below w3.heap.size w3 W) => same_any ao N co rs ad cd ds W HN.out.symm (by rw [HD.out, hdd]) (hP.below hW) (fun r hr => (hpin r hr).below hW) ((has_of_owns hro).below hW) (fun r hr => (hqin r hr).below hW) k3 (by rw [HN.out]; exact k2)
  rw [← k1, ← HN.out]
  have HSM := Lib.hid hSM
  clear hSM hP k1 k2 k3 hpin hqin hb3 hdd hdl hro hin hsu
  go_wp2_with (first | (go_at_call 24; (with_reducible refine (HSM.out _ (brefl _)).mono ?_); rintro e w4 ⟨rfl, hb4⟩; have h4c := bc hb4; have h4f := bf hb4; have h4z := hb4.size; try simp only [World.size_alloc, World.size_drew] at h4z))
  go_ret
  exact ⟨rfl, HB3.out.trans (hb4.mono HB3.out.size)⟩

open Go.ChangeShapes Go.WideShapes Go.ChangeAt Go.RowKit
open Go.ChangeMaps (open_string shut_string)

set_option maxRecDepth 100000 in
theorem chainReads_walks (H : Type) (enc : TypeId × Value → H) : Walks H enc 6 [22] := by
  intro W base args ds p hval hA _
  obtain ⟨v0, vs0, d0, ds0, p0, q0, hargs, rfl, rfl, h0, r0⟩ := trodAll_cons hA
  obtain ⟨rfl, rfl, rfl⟩ := trodAll_nil r0
  obtain rfl : args = #[v0] := by cases args; simp_all
  obtain ⟨a1, n1, c1, bs, rfl, hb, hl, hn1, hc1, hA1⟩ := open_bytes Try.underlying22 Try.underlying5 (by kernel_rfl) (hval 0 22 v0 rfl rfl) h0
  exact chainReads_walk a1 n1 c1 bs W hb hl hn1 hc1

set_option maxRecDepth 100000 in
theorem chainReads_lifted (os : Os) (started : os.Started) (H : Type) (enc : TypeId × Value → H) :
    ReturnsInHanded {} Try.checked os 6 .any (Rows.chainReadsSpec.pre6 enc Try.prog Try.f6 Rows.chainReadsRow.domain false) (Rows.chainReadsSpec.post enc Try.prog Try.f6 false true false false) :=
  lift_law (s := Rows.chainReadsSpec) (fn := Try.f6) started (by kernel_rfl) Try.func6
    (ChangeSpec.witness6 (enc := enc) (C := Try.checked) false ⟨#[], #[.slice none 0 0], []⟩ 8 (by kernel_rfl) (by kernel_rfl) (by kernel_rfl) (by kernel_rfl))
    rfl rfl (fun ds h => by match ds, h with | [d0], _ => rfl) (by intro t ht; simp [Try.params6] at ht; first | (subst ht; exact ⟨by kernel_rfl, of_decide_eq_true (by kernel_rfl)⟩) | (obtain rfl | rfl := ht <;> exact ⟨by kernel_rfl, of_decide_eq_true (by kernel_rfl)⟩) | (obtain rfl | rfl | rfl := ht <;> exact ⟨by kernel_rfl, of_decide_eq_true (by kernel_rfl)⟩) | (obtain rfl | rfl | rfl | rfl := ht <;> exact ⟨by kernel_rfl, of_decide_eq_true (by kernel_rfl)⟩))
    (by rw [Try.params6]; exact chainReads_walks H enc)
theorem chainReads_over : Rows.chainReadsRow.holds Try.pinned (OpenSpec.ofChange Rows.chainReadsSpec) :=
  OpenClaim.holds_of_wide 6 Try.f6 rfl rfl rfl rfl rfl rfl rfl ⟨rfl, rfl, rfl, rfl, rfl⟩ rfl rfl rfl rfl rfl (by kernel_rfl) Try.func6 (by kernel_rfl)
    (of_decide_eq_true (by kernel_rfl)) (by unfold Func.isWrapper; first | (rw [if_pos (by decide +kernel)]; kernel_rfl) | (rw [if_neg (by decide +kernel)]; exact ⟨rfl, rfl⟩))
    (fun os started H enc _ => chainReads_lifted os started H enc)
theorem chainReads_proved : Rows.ChainReadsSaid := chainReads_over
#print axioms chainReads_proved
end Go.Proofs.Ythehcbbdkiomnaa
