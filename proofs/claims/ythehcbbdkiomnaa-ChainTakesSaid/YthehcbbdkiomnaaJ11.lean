/- Joined from: HRefR HSame ChainReads. -/
import Derived.Test.YthehcbbdkiomnaaJ01
import Derived.Test.YthehcbbdkiomnaaJ10
import Derived.Test.YthehcbbdkiomnaaJ09
import Derived.Test.YthehcbbdkiomnaaJ04
section

/- The document's Read of chains. Conditions: bytes as the slice says, no more than two thousand. -/
namespace Go.Proofs.Ythehcbbdkiomnaa
open Go.RowKit Go.Lib

theorem info_chainR : (Try.prog.info? 144).map (fun i => (i.zero, i.size, i.bytes)) = some (some (.agg #[.int .u32 0, .slice none 0 0, .slice none 0 0]), 3, 56) := by kernel_rfl
theorem ChR.IsR.below {w w' : World} {r : ChR} (h : r.IsR w) (hb : Below w.heap.size w w') : r.IsR w' := ⟨h.rules.below hb, h.subs.below hb, h.capR, h.maxR, h.capS, h.maxS⟩
theorem ChR.IsR.keptE {e : TypeId} {w w' : World} {r : ChR} (h : r.IsR w) (hk : KeptE e w w') (h1 : 147 ≠ e) (h2 : 148 ≠ e) : r.IsR w' := ⟨h.rules.keptE hk h1, h.subs.keptE hk h2, h.capR, h.maxR, h.capS, h.maxS⟩
/-- What it answers. -/
def HRefIs (bs : List UInt8) (w : World) (e : Ending) (w' : World) : Prop :=
  ((∃ (rs : List ChR) (ao : Option Addr) (co : Nat), CsOk bs ∧ rs.map ChR.d = csD bs (num bs 4 4) ∧ rs.length = num bs 4 4 ∧ e = .returned (.tuple #[.slice ao (num bs 4 4) co, .bool true]) ∧ w'.ownsRow w.heap.size 144 3 (.slice ao (num bs 4 4) co) (num bs 4 4) (chRV rs) ∧ (∀ r ∈ rs, r.IsR w') ∧ (∀ r ∈ rs, ∀ s ∈ r.subs, s.IsR w)) ∨
    (¬ CsOk bs ∧ e = .returned (.tuple #[.slice none 0 0, .bool false]))) ∧ Below w.heap.size w w'
set_option maxRecDepth 100000 in
set_option maxHeartbeats 12800000 in
theorem hrefread_any (a : Option Addr) (n c : Nat) (bs : List UInt8) (w : World) (h : Has w a (bytesV bs)) (hl : bs.length = n) (hn : n ≤ c) (hc : c ≤ maxLen) (h2 : n ≤ 4000) :
    Calls Try.prog 23 #[.slice a n c] w (HRefIs bs w) := by
  have hAC := allocC
  have hAF := allocF
  have hnm := Nat.le_trans hn hc
  have HUQ := Lib.hid (fun (k : Nat) (z : Int) (hz : z = (k : Nat)) (hk : k ≤ 1000000) W (hW : Below w.heap.size w W) => qN_any a n c bs k z hz W (h.below hW) hl hnm (by omega))
  have h4q := fun z hz => HUQ.out 4 z hz (by omega)
  obtain ⟨y, hy, hyv⟩ : ∃ y : Int, (∀ W, Below w.heap.size w W → Calls Try.prog 38 #[.slice a n c, .int .i64 0, .int .i64 2] W fun e w' => e = .returned (.int .i64 y) ∧ W = w') ∧ (2 ≤ n → y = (num bs 0 2 : Nat)) := by
    by_cases g : 2 ≤ n
    · exact ⟨_, fun W hW => u_in a n c 0 2 bs W (h.below hW) hl (by omega) (by decide) hnm, fun _ => rfl⟩
    · exact ⟨_, fun W hW => u_out a n c 2 0 W (by omega) (by omega) (by omega) hnm, fun h => absurd h g⟩
  have HY := Lib.hid hy
  unfold HRefIs
  by_cases h8 : 8 ≤ n
  case neg =>
    have HNO := Lib.hid (show ¬ CsOk bs from fun h => h8 (by have := h.len; omega))
    rw [show qN bs 4 = -1 from by unfold qN; rw [if_neg (by omega)]] at h4q
    have H4 := Lib.hid h4q
    clear h hl h4q HUQ hy hyv
    go_enter Try.func23, Try.ntmps23
    go_wp2_with (first | (go_at_call 38; (with_reducible refine (HY.out _ (by exact blw)).mono ?_); rintro e w_ ⟨rfl, rfl⟩) | (go_at_call 38; (with_reducible refine (H4.out _ (by omega) _ (by exact blw)).mono ?_); rintro e w_ ⟨rfl, rfl⟩))
    all_goals (refine bodyPost_ret (v := .tuple #[.slice none 0 0, .bool false]) (by simp [results, Try.results23, go_sem]) rfl ?_; exact ⟨.inr ⟨HNO.out, rfl⟩, brefl _⟩)
  rw [show qN bs 4 = ((num bs 4 4 : Nat) : Int) from by unfold qN; rw [if_pos (by omega)]] at h4q
  have hyv := hyv (by omega)
  subst hyv
  have hM4 := num4_lt bs 4
  have HL := Lib.hid hl
  have HH := Lib.hid h
  have HSD := Lib.hid (csD_succ bs)
  have HSZ := Lib.hid (show csD bs 0 = [] from rfl)
  have HP0 := Lib.hid (show posC bs 0 = 8 from rfl)
  have HNOC := Lib.hid (show ∀ k, k < num bs 4 4 → ¬ fitC bs (posC bs k) → ¬ CsOk bs from fun k hk hnf ho => hnf (ho.each k hk))
  by_cases hver : num bs 0 2 = 2 ∨ num bs 0 2 = 3
  case neg =>
    have HNO := Lib.hid (show ¬ CsOk bs from fun h => hver h.ver)
    generalize num bs 0 2 = y at *
    have H4 := Lib.hid h4q
    have d2 : ¬ (y : Int) = 2 := by omega
    have d3 : ¬ (y : Int) = 3 := by omega
    clear h hl h4q HUQ hy hver
    go_enter Try.func23, Try.ntmps23
    go_wp2_with (first | (go_at_call 38; (with_reducible refine (HY.out _ (by exact blw)).mono ?_); rintro e w_ ⟨rfl, rfl⟩) | (go_at_call 38; (with_reducible refine (H4.out _ (by omega) _ (by exact blw)).mono ?_); rintro e w_ ⟨rfl, rfl⟩))
    all_goals (refine bodyPost_ret (v := .tuple #[.slice none 0 0, .bool false]) (by simp [results, Try.results23, go_sem]) rfl ?_; exact ⟨.inr ⟨HNO.out, rfl⟩, brefl _⟩)
  have HCS := Lib.hid (show (∀ k, k < num bs 4 4 → fitC bs (posC bs k)) → CsOk bs from fun hf => ⟨by omega, hver, hf⟩)
  generalize num bs 4 4 = M at *
  generalize num bs 0 2 = y at *
  have H4 := Lib.hid h4q
  clear h hl h4q hy
  rcases hver with hv | hv
  all_goals
    subst hv
    have w0 : decide ((M : Int) < 0) = false := by simp
    go_enter Try.func23, Try.ntmps23
    go_wp2_with (first | (go_at_call 38; (with_reducible refine (HY.out _ (by exact blw)).mono ?_); rintro e w_ ⟨rfl, rfl⟩) | (go_at_call 38; (with_reducible refine (H4.out _ (by omega) _ (by exact blw)).mono ?_); rintro e w_ ⟨rfl, rfl⟩))
    obtain ⟨V, hV⟩ : ∃ V, V = w.alloc (Obj.cells #[] 144) := ⟨_, rfl⟩
    have HOV := Lib.hid (show V.ownsRow w.heap.size 144 3 (.slice (some ⟨w.heap.size, 0, none⟩) 0 0) 0 [] from by rw [hV]; exact World.ownsRow_lit w #[] 0 (Nat.le_refl _) (by decide) rfl)
    have HBV := Lib.hid (show Below w.heap.size w V from by rw [hV]; exact balloc (brefl w) _)
    rw [← hV]
    clear hV H4 HY
    go_loopw [6, 7, 8] (fun l pz i wr => ∃ (k : Nat) (rs : List ChR) (ao : Option Addr) (co : Nat), k ≤ M ∧ l = .slice ao k co ∧ pz = .int .i64 (posC bs k : Nat) ∧ i = .int .i64 (k : Nat) ∧ rs.length = k ∧ (∀ q, q < k → fitC bs (posC bs q)) ∧ rs.map ChR.d = csD bs k ∧ wr.ownsRow w.heap.size 144 3 (.slice ao k co) k (chRV rs) ∧ (∀ r ∈ rs, r.IsR wr) ∧ (∀ r ∈ rs, ∀ s ∈ r.subs, s.IsR w) ∧ Below w.heap.size w wr) (fun _ _ i _ => M - (Go.RowKit.intOf i).toNat)
    case atStart => exact ⟨0, [], _, 0, Nat.zero_le _, rfl, (by rw [HP0.out]; rfl), rfl, rfl, (fun q hq => by omega), (by rw [HSZ.out]; rfl), HOV.out, (fun r hr => by simp at hr), (fun r hr => by simp at hr), HBV.out⟩
    case round =>
      obtain ⟨k, rs, ao, co, hk, rfl, rfl, rfl, hsl, hfit, hds, ho, heach, hsubs, hb⟩ := hrel
      rename World => wr
      have HO := Lib.hid ho
      have HFIT := Lib.hid hfit
      have HDS := Lib.hid hds
      have HEACH := Lib.hid heach
      have HSUBS := Lib.hid hsubs
      have HBW := Lib.hid hb
      have hzr : w.heap.size ≤ wr.heap.size := hb.size
      have hpn := posC_le (bs := bs) (by rw [HL.out]; exact h8) k hfit
      have hpg := posC_ge (bs := bs) k hfit
      rw [HL.out] at hpn
      have HPS := Lib.hid (show posC bs (k + 1) = posC bs k + num bs (posC bs k + 4) 4 from rfl)
      have HSDK := Lib.hid (HSD.out k)
      have HFK := Lib.hid (fun (h : fitC bs (posC bs k)) q (hq : q < k + 1) => show fitC bs (posC bs q) from by
        rcases Nat.lt_or_ge q k with g | g
        · exact HFIT.out q g
        · rw [show q = k by omega]; exact h)
      have HNK := Lib.hid (fun hk => HNOC.out k hk)
      clear hfit hds ho heach hsubs hb
      by_cases hlt : k < M
      · have dk : decide ((k : Int) < (M : Int)) = true := by simpa using hlt
        have hnk := HNK.out hlt
        generalize hp : posC bs k = p at *
        have hfd : fitC bs p ↔ p + 16 ≤ n ∧ 16 ≤ num bs (p + 4) 4 ∧ p + num bs (p + 4) 4 ≤ n ∧ ChOk (ownC bs p) := by unfold fitC; rw [HL.out]
        have HFD := Lib.hid hfd
        have hq : qN bs (p + 4) = if p + 8 ≤ n then ((num bs (p + 4) 4 : Nat) : Int) else -1 := by unfold qN; rw [HL.out]
        have hs4 := num4_lt bs (p + 4)
        have x1 : IntKind.i64.wrap ((p : Int) + 4) = (p : Int) + 4 := IntWalk.i64_in _ (by omega)
        have HUP := Lib.hid (fun z hz => HUQ.out (p + 4) z hz (by omega))
        clear hfd
        by_cases c16 : 16 ≤ qN bs (p + 4)
        case neg =>
          have HNO := Lib.hid (hnk fun hf => c16 (by have := HFD.out.1 hf; rw [hq, if_pos (by omega)]; omega))
          have d16 : decide (qN bs (p + 4) < 16) = true := by simp; omega
          clear hnk hq c16
          go_wp2_with (first | (go_at_call 38; (with_reducible refine (HUP.out _ (by omega) _ (by exact HBW.out)).mono ?_); rintro e w_ ⟨rfl, rfl⟩))
          refine bodyPost_ret (v := .tuple #[.slice none 0 0, .bool false]) (by simp [results, Try.results23, go_sem]) rfl ?_
          exact ⟨.inr ⟨HNO.out, rfl⟩, HBW.out⟩
        have hqs : qN bs (p + 4) = ((num bs (p + 4) 4 : Nat) : Int) := by
          by_cases g : p + 8 ≤ n
          · rw [hq, if_pos g]
          · rw [hq, if_neg g] at c16
            omega
        have hup := fun z hz => HUQ.out (p + 4) z hz (by omega)
        rw [hqs] at hup c16
        have hHI := fun W => in_any n (p : Int) ((num bs (p + 4) 4 : Nat) : Int) W hnm (by omega) (by omega)
        have hown : ownC bs p = (bs.drop p).take (num bs (p + 4) 4) := rfl
        clear hqs hq HUP
        generalize num bs (p + 4) 4 = s at *
        have d16 : decide ((s : Int) < 16) = false := by simp; omega
        have HUP := Lib.hid hup
        clear hup
        by_cases cs : p + s ≤ n
        case neg =>
          have HNO := Lib.hid (hnk fun hf => cs (HFD.out.1 hf).2.2.1)
          rw [show decide ((0 : Int) ≤ (p : Int) ∧ (0 : Int) ≤ (s : Int) ∧ (p : Int) ≤ (n : Int) ∧ (s : Int) ≤ (n : Int) - (p : Int)) = false from by simp; omega] at hHI
          have HI := Lib.hid hHI
          clear hnk hHI
          go_wp2_with (first | (go_at_call 38; (with_reducible refine (HUP.out _ (by omega) _ (by exact HBW.out)).mono ?_); rintro e w_ ⟨rfl, rfl⟩) | (go_at_call 57; (with_reducible refine (HI.out _).mono ?_); rintro e w_ ⟨rfl, rfl⟩))
          refine bodyPost_ret (v := .tuple #[.slice none 0 0, .bool false]) (by simp [results, Try.results23, go_sem]) rfl ?_
          exact ⟨.inr ⟨HNO.out, rfl⟩, HBW.out⟩
        rw [show decide ((0 : Int) ≤ (p : Int) ∧ (0 : Int) ≤ (s : Int) ∧ (p : Int) ≤ (n : Int) ∧ (s : Int) ≤ (n : Int) - (p : Int)) = true from by simp; omega] at hHI
        have HI := Lib.hid hHI
        have hcp : ¬ c = p := by omega
        have x2 : IntKind.i64.wrap ((p : Int) + (s : Int)) = (p : Int) + (s : Int) := IntWalk.i64_in _ (by omega)
        have HOWN := Lib.hid hown
        have hsub : Has w (adv a c p) (bytesV (ownC bs p)) := by
          have hdd := HH.out.adv c p (by rw [bytesV_length, HL.out]; exact hn)
          have hdt := hdd.take s
          rwa [bytesV_drop, bytesV_take, ← hown] at hdt
        have hol : (ownC bs p).length = s := by rw [hown, List.length_take, List.length_drop, HL.out]; omega
        have hm1 : s ≤ c - p := by omega
        have hm2 : c - p ≤ maxLen := Nat.le_trans (Nat.sub_le _ _) hc
        have hm3 : 16 ≤ s := by omega
        have hm4 : s ≤ 4000 := by omega
        obtain ⟨A0, hA0⟩ : ∃ x, x = adv a c p := ⟨_, rfl⟩
        obtain ⟨C0, hC0⟩ : ∃ x, x = c - p := ⟨_, rfl⟩
        rw [← hA0] at hsub
        rw [← hC0] at hm1 hm2
        have hone := fun W (hW : Below w.heap.size w W) => refone_any A0 s C0 (ownC bs p) w W hsub (hsub.below hW) hol hm1 hm2 hm3 hm4
        have HONE := Lib.hid hone
        clear hone hm1 hm2 hm3 hm4
        clear hHI hown hsub hol
        go_wp2_with (first | (go_at_call 38; (with_reducible refine (HUP.out _ (by omega) _ (by exact HBW.out)).mono ?_); rintro e w_ ⟨rfl, rfl⟩) | (go_at_call 57; (with_reducible refine (HI.out _).mono ?_); rintro e w_ ⟨rfl, rfl⟩))
        have hA1 : Option.map (fun x => x.add p) a = A0 := by rw [hA0, adv, if_neg hcp]
        rw [hA1, ← hC0]
        refine (HONE.out _ HBW.out).mono ?_
        rintro e w1 ⟨(⟨r, hok, hd, rfl, hr, hs⟩ | ⟨hno, f, a1, m1, c1, a2, m2, c2, rfl⟩), hb1⟩
        case inr =>
          have HNO := Lib.hid (hnk fun hf => hno (HFD.out.1 hf).2.2.2)
          have HB1 := Lib.hid (HBW.out.trans (hb1.mono HBW.out.size))
          clear hno hnk hb1
          go_wp2_with fail
          refine bodyPost_ret (v := .tuple #[.slice none 0 0, .bool false]) (by simp [results, Try.results23, go_sem]) rfl ?_
          exact ⟨.inr ⟨HNO.out, rfl⟩, HB1.out.trans (Below.mono (balloc (brefl w1) _) HB1.out.size)⟩
        have HR1 := Lib.hid hr
        have HS1 := Lib.hid hs
        have HB1 := Lib.hid hb1
        have HFS := Lib.hid (HFK.out (HFD.out.2 ⟨by omega, by omega, cs, hok⟩))
        have HDR := Lib.hid hd
        have hz1 := hb1.size
        have he : r.enc.toArray = #[.int .u32 (r.first : Nat), .slice r.ar r.rules.length r.cr, .slice r.sa r.subs.length r.sc] := rfl
        rw [he]
        clear hr hs hb1 hd hok hnk he hA0 hC0 hA1
        generalize hf : r.first = r1 at *
        generalize hl1 : r.rules.length = r2 at *
        generalize hl2 : r.subs.length = r3 at *
        obtain ⟨B0, hB0⟩ : ∃ B, B = Obj.cells #[.int .u32 (r1 : Nat), .slice r.ar r2 r.cr, .slice r.sa r3 r.sc] 144 := ⟨_, rfl⟩
        have hB3 : Below wr.heap.size wr ((w1.alloc B0).alloc B0) := HB1.out.trans ((balloc (balloc (brefl w1) _) _).mono HB1.out.size)
        have HO3 := Lib.hid (owns_below HO.out hB3 (Nat.le_refl _))
        have HN3 := Lib.hid (show Has ((w1.alloc B0).alloc B0) (some ⟨w1.heap.size + 1, 0, none⟩) [.int .u32 (r1 : Nat), .slice r.ar r2 r.cr, .slice r.sa r3 r.sc] from by
          have := has_alloc (w1.alloc B0) #[.int .u32 (r1 : Nat), .slice r.ar r2 r.cr, .slice r.sa r3 r.sc] 144
          rw [World.size_alloc] at this
          rw [hB0] at this ⊢
          exact this)
        have HB3 := Lib.hid hB3
        have hR3 : r.IsR ((w1.alloc B0).alloc B0) := HR1.out.below (balloc (balloc (brefl w1) _) _)
        have HR3 := Lib.hid hR3
        have hz3 : w.heap.size ≤ ((w1.alloc B0).alloc B0).heap.size := by have := hB3.size; omega
        clear hB3 hR3
        rw [hB0] at HO3 HN3 HB3 HR3 hz3
        clear hB0 B0
        go_wp2_with (at_builtin; refine wpApp rfl _ _ 64 rfl w.heap.size 144 (.agg #[.int .u32 0, .slice none 0 0, .slice none 0 0]) 3 56 Try.underlying64 info_chainR rfl (by decide) _ k (chRV rs) rfl HO3.out (some ⟨w1.heap.size + 1, 0, none⟩) 1 1 [.int .u32 (r1 : Nat), .slice r.ar r2 r.cr, .slice r.sa r3 r.sc] rfl rfl HN3.out (fun h => by cases h) (fun u hu => by simp at hu; rcases hu with rfl | rfl | rfl <;> rfl) (by unfold maxLen; omega) (by omega) hz3 ?_; intro a7 c7 w7 hown7 _ _ _ hb7 hg7; have HO7 := Lib.hid hown7; have HB7 := Lib.hid ((HBW.out.trans (HB3.out.mono hzr)).trans hb7); have HK7 := Lib.hid ((KeptE.below HB3.out).trans (KeptE.grown HO3.out hg7)); have HR7 := Lib.hid (HR3.out.keptE (KeptE.grown HO3.out hg7) (by decide) (by decide)); clear hown7 hb7 hg7; (try dsimp only [Act.put]); (try simp only [List.setIfInBounds_toArray, List.set_cons_succ, List.set_cons_zero]))
        go_roundw
        case rel =>
          refine ⟨k + 1, rs ++ [r], a7, c7, hlt, rfl, (by rw [HPS.out]; go_num), by go_num, by rw [List.length_append, hsl]; rfl, HFS.out, ?_, ?_, ?_, ?_, HB7.out⟩
          · rw [List.map_append, HDS.out, HSDK.out]
            show _ ++ [r.d] = _
            rw [HDR.out]
          · rw [chRV_snoc]
            have := HO7.out
            rw [← hf, ← hl1, ← hl2] at this
            exact this
          · intro x hx
            rcases List.mem_append.1 hx with hx | hx
            · exact (HEACH.out x hx).keptE HK7.out (by decide) (by decide)
            · simp only [List.mem_singleton] at hx
              subst hx
              exact HR7.out
          · intro x hx
            rcases List.mem_append.1 hx with hx | hx
            · exact HSUBS.out x hx
            · simp only [List.mem_singleton] at hx
              subst hx
              exact HS1.out
        case measure => simp [Go.RowKit.intOf]; omega
      · obtain rfl : M = k := by omega
        have dk : decide ((M : Int) < (M : Int)) = false := by simp
        go_wp2_with fail
        refine bodyPost_ret (v := .tuple #[.slice ao M co, .bool true]) (by simp [results, Try.results23, go_sem]) rfl ?_
        exact ⟨.inl ⟨rs, ao, co, HCS.out HFIT.out, HDS.out, hsl, rfl, HO.out, HEACH.out, HSUBS.out⟩, HBW.out⟩
end Go.Proofs.Ythehcbbdkiomnaa
end
section

/- The laws' own comparison of two lists of chains that are alike. Conditions: both in memory, alike; data of four thousand bytes at most. -/
namespace Go.Proofs.Ythehcbbdkiomnaa
open Go.RowKit Go.Lib

/-- A chain in memory, of whatever kind. -/
structure ChR.In (w : World) (r : ChR) : Prop where
  rules : Has w r.ar (ruDV r.rules)
  subs : Has w r.sa (subRV r.subs)
  each : ∀ s ∈ r.subs, s.IsR w
theorem SubR.IsR.below {w w' : World} {r : SubR} (h : r.IsR w) (hb : Below w.heap.size w w') : r.IsR w' := ⟨h.has.below hb, h.len, h.cap, h.max⟩
theorem ChR.In.below {w w' : World} {r : ChR} (h : r.In w) (hb : Below w.heap.size w w') : r.In w' := ⟨h.rules.below hb, h.subs.below hb, fun s hs => (h.each s hs).below hb⟩
theorem ChR.Is.toIn {L : Nat} {w : World} {r : ChR} (h : r.Is L w) : r.In w := ⟨h.rules.1, h.subs.1, fun s hs => ⟨(h.each s hs).has.has, (h.each s hs).len, (h.each s hs).cap, (h.each s hs).max⟩⟩
set_option maxRecDepth 100000 in
set_option maxHeartbeats 12800000 in
theorem same_any (aP : Option Addr) (n cP : Nat) (ps : List ChR) (aD : Option Addr) (cD : Nat) (ds : List ChR) (w : World) (hpl : ps.length = n) (hd : ps.map ChR.d = ds.map ChR.d)
    (hp : Has w aP (chRV ps)) (hpe : ∀ r ∈ ps, r.In w) (hq : Has w aD (chRV ds)) (hqe : ∀ r ∈ ds, r.In w) (hm : ∀ r ∈ ps, r.rules.length ≤ 4000 ∧ r.subs.length ≤ 4000 ∧ ∀ s ∈ r.subs, s.n ≤ 4000) (hn : n ≤ 4000) :
    Calls Try.prog 24 #[.slice aP n cP, .slice aD n cD] w fun e w' => e = .returned (.bool true) ∧ Below w.heap.size w w' := by
  have hAC := allocC
  have hAF := allocF
  have HPL := Lib.hid hpl
  have HD := Lib.hid hd
  have hdl : ds.length = n := by have := congrArg List.length hd; rw [List.length_map, List.length_map, hpl] at this; exact this.symm
  have HDL := Lib.hid hdl
  have HP := Lib.hid hp
  have HPE := Lib.hid hpe
  have HQ := Lib.hid hq
  have HQE := Lib.hid hqe
  have HM := Lib.hid hm
  have dn : ((n : Int) != (n : Int)) = false := bne_self_eq_false' _
  clear hpl hd hp hpe hq hqe hm hdl
  go_enter Try.func24, Try.ntmps24
  go_wp2_with fail
  go_loopw [19] (fun i wr => ∃ k : Nat, k ≤ n ∧ i = .int .i64 (k : Nat) ∧ Below w.heap.size w wr) (fun i _ => n - (Go.RowKit.intOf i).toNat)
  case atStart => exact ⟨0, Nat.zero_le _, rfl, Below.refl _ _⟩
  case round =>
    obtain ⟨k, hk, rfl, hb⟩ := hrel
    rename World => wr
    have HB := Lib.hid hb
    have hzr := hb.size
    by_cases hlt : k < n
    case neg =>
      obtain rfl : n = k := by omega
      have dk : decide ((n : Int) < (n : Int)) = false := by simp
      clear hlt hk hb dn
      go_wp2_with fail
      go_ret
      exact ⟨rfl, HB.out⟩
    obtain ⟨p, hp⟩ : ∃ p, ps[k]? = some p := ⟨_, List.getElem?_eq_getElem (by rw [HPL.out]; exact hlt)⟩
    obtain ⟨r, hr⟩ : ∃ r, ds[k]? = some r := ⟨_, List.getElem?_eq_getElem (by rw [HDL.out]; exact hlt)⟩
    have hrd : p.d = r.d := by
      have := congrArg (fun l => l[k]?) HD.out
      simp only [List.getElem?_map, hp, hr, Option.map_some, Option.some.injEq] at this
      exact this
    have HPK := Lib.hid ((HPE.out p (List.mem_of_getElem? hp)).below hb)
    have HRK := Lib.hid ((HQE.out r (List.mem_of_getElem? hr)).below hb)
    obtain ⟨hm1, hm2, hm3⟩ := HM.out p (List.mem_of_getElem? hp)
    obtain ⟨bE, oE, rfl, hbE, hcE⟩ := flat_cells (f := ChR.enc) (z := 3) (fun _ => rfl) (by decide) (HP.out.below hb) hp
    have e0 := hcE 0 (by decide) _ rfl
    have e1 := hcE 1 (by decide) _ rfl
    have e2 := hcE 2 (by decide) _ rfl
    rw [Nat.add_zero] at e0
    obtain ⟨bA, oA, rfl, hbA, hcA⟩ := flat_cells (f := ChR.enc) (z := 3) (fun _ => rfl) (by decide) (HQ.out.below hb) hr
    have c0 := hcA 0 (by decide) _ rfl
    have c1 := hcA 1 (by decide) _ rfl
    have c2 := hcA 2 (by decide) _ rfl
    rw [Nat.add_zero] at c0
    clear hcE hcA hp hr hb
    obtain ⟨rf, ar, cr, sa, sc, rru, subs⟩ := p
    obtain ⟨rf2, rar, rcr, rsa, rsc, rru2, rsu⟩ := r
    have hrd : (⟨rf, rru, subs.map SubR.d⟩ : ChD) = ⟨rf2, rru2, rsu.map SubR.d⟩ := hrd
    injection hrd with hd1 hd2 hd3
    subst hd1 hd2
    have hsl : rsu.length = subs.length := by have := congrArg List.length hd3; rw [List.length_map, List.length_map] at this; exact this.symm
    have HSD := Lib.hid hd3
    have HM3 := Lib.hid hm3
    simp only at e0 e1 e2 c0 c1 c2 hm1 hm2
    rw [hsl] at c2
    obtain ⟨mR, hmR⟩ : ∃ m, m = rru.length := ⟨_, rfl⟩
    obtain ⟨mS, hmS⟩ : ∃ m, m = subs.length := ⟨_, rfl⟩
    rw [← hmR] at e1 c1 hm1
    rw [← hmS] at e2 c2 hsl hm2
    have HMR := Lib.hid hmR
    have HMS := Lib.hid hmS
    have HSL := Lib.hid hsl
    have dk : decide ((k : Int) < (n : Int)) = true := by simpa using hlt
    have f0 : ((rf : Int) != (rf : Int)) = false := bne_self_eq_false' _
    have f1 : ((mR : Int) != (mR : Int)) = false := bne_self_eq_false' _
    have f2 : ((mS : Int) != (mS : Int)) = false := bne_self_eq_false' _
    clear hmR hmS hd3 hsl dn hm3
    go_wp2_with fail
    obtain ⟨U, hU⟩ : ∃ U, U = (wr.alloc (Obj.cells #[.int .u32 (rf : Nat), .slice ar mR cr, .slice sa mS sc] 80)).alloc (Obj.cells #[.int .u32 (rf : Nat), .slice rar mR rcr, .slice rsa mS rsc] 144) := ⟨_, rfl⟩
    have hbU : Below wr.heap.size wr U := by rw [hU]; exact balloc (balloc (brefl _) _) _
    have h6 : U.heap[wr.heap.size]? = some (.cells #[.int .u32 (rf : Nat), .slice ar mR cr, .slice sa mS sc] 80 (0, 0)) := by rw [hU, heap_push, if_neg (by simp), heap_push, if_pos rfl]
    have h7 : U.heap[wr.heap.size + 1]? = some (.cells #[.int .u32 (rf : Nat), .slice rar mR rcr, .slice rsa mS rsc] 144 (0, 0)) := by rw [hU, heap_push, if_pos (by simp)]
    have HPU := Lib.hid (HPK.out.below hbU)
    have HRU := Lib.hid (HRK.out.below hbU)
    have HBU := Lib.hid (HB.out.trans (hbU.mono hzr))
    have H6 := Lib.hid h6
    have H7 := Lib.hid h7
    have l6 := (Array.getElem?_eq_some_iff.1 h6).1
    have l7 := (Array.getElem?_eq_some_iff.1 h7).1
    (try simp only [World.size_alloc])
    rw [← hU]
    clear hU hbU e0 e1 e2 c0 c1 c2 HPK HRK h6 h7 hbE hbA f0 f1 f2
    generalize wr.heap.size = g6 at *
    generalize hg7 : g6 + 1 = g7 at *
    clear hzr
    go_loopw [54] (fun i wv => ∃ j : Nat, j ≤ mR ∧ i = .int .i64 (j : Nat) ∧ Below U.heap.size U wv) (fun i _ => mR - (Go.RowKit.intOf i).toNat)
    case atStart => exact ⟨0, Nat.zero_le _, rfl, Below.refl _ _⟩
    case round =>
      obtain ⟨j, hj, rfl, hbv⟩ := hrel
      rename World => wv
      have HBVU := Lib.hid hbv
      have hzv := hbv.size
      have h6 := (hbv.block g6 l6).trans H6.out
      have h7 := (hbv.block g7 l7).trans H7.out
      have q6 := fun o => cell_of_heap h6 o
      have q7 := fun o => cell_of_heap h7 o
      have l6v := (Array.getElem?_eq_some_iff.1 h6).1
      have l7v := (Array.getElem?_eq_some_iff.1 h7).1
      by_cases hltj : j < mR
      · obtain ⟨x, hx⟩ : ∃ x, rru[j]? = some x := ⟨_, List.getElem?_eq_getElem (by rw [← HMR.out]; exact hltj)⟩
        obtain ⟨bR, oR, hbR, hblR, hcR⟩ := flat_cells (f := RuD.enc) (z := 4) (fun _ => rfl) (by decide) (HPU.out.rules.below hbv) hx
        obtain ⟨bQ, oQ, hbQ, hblQ, hcQ⟩ := flat_cells (f := RuD.enc) (z := 4) (fun _ => rfl) (by decide) (HRU.out.rules.below hbv) hx
        have x0 := hcR 0 (by decide) _ rfl
        have x1 := hcR 1 (by decide) _ rfl
        have x2 := hcR 2 (by decide) _ rfl
        have x3 := hcR 3 (by decide) _ rfl
        have y0 := hcQ 0 (by decide) _ rfl
        have y1 := hcQ 1 (by decide) _ rfl
        have y2 := hcQ 2 (by decide) _ rfl
        have y3 := hcQ 3 (by decide) _ rfl
        rw [Nat.add_zero] at x0 y0
        (try simp only at hbR hbQ)
        subst hbR hbQ
        have dj : decide ((j : Int) < (mR : Int)) = true := by simpa using hltj
        clear hx hcR hcQ h6 h7 hbv
        obtain ⟨rt, rv, re, rd⟩ := x
        simp only at x0 x1 x2 x3 y0 y1 y2 y3
        have b1 : ((rt : Int) != (rt : Int)) = false := bne_self_eq_false' _
        have b2 : ((rv : Int) != (rv : Int)) = false := bne_self_eq_false' _
        have b3 : ((re : Int) != (re : Int)) = false := bne_self_eq_false' _
        have b4 : ((rd : Int) != (rd : Int)) = false := bne_self_eq_false' _
        go_wp2_with fail
        obtain ⟨X, hX⟩ : ∃ X, X = wv.alloc (Obj.cells #[.int .i64 (rt : Nat), .int .i64 (rv : Nat), .int .u32 (re : Nat), .int .u32 (rd : Nat)] 85) := ⟨_, rfl⟩
        have hbX : Below wv.heap.size wv X := by rw [hX]; exact balloc (brefl _) _
        have h9 : X.heap[wv.heap.size]? = some (.cells #[.int .i64 (rt : Nat), .int .i64 (rv : Nat), .int .u32 (re : Nat), .int .u32 (rd : Nat)] 85 (0, 0)) := by rw [hX, heap_push, if_pos rfl]
        have q9 := fun o => cell_of_heap h9 o
        have l9 := (Array.getElem?_eq_some_iff.1 h9).1
        have q7 := fun o => cell_of_heap ((hbX.block g7 l7v).trans ((HBVU.out.block g7 l7).trans H7.out)) o
        have y0 := (hbX.cell (p := ⟨bQ, oQ + j * 4, none⟩) hblQ).trans y0
        have y1 := (hbX.cell (p := ⟨bQ, oQ + j * 4 + 1, none⟩) hblQ).trans y1
        have y2 := (hbX.cell (p := ⟨bQ, oQ + j * 4 + 2, none⟩) hblQ).trans y2
        have y3 := (hbX.cell (p := ⟨bQ, oQ + j * 4 + 3, none⟩) hblQ).trans y3
        have lQ := Nat.lt_of_lt_of_le hblQ hbX.size
        have l7X := Nat.lt_of_lt_of_le l7v hbX.size
        have HBX := Lib.hid (HBVU.out.trans (hbX.mono hzv))
        rw [← hX]
        clear hX x0 x1 x2 x3 q6 hblR h9 hbX
        generalize wv.heap.size = g9 at *
        refine wp_region_tree (.step 0 (.step 1 (.step 2 (.step 3 (.step 4 (.step 5 (.step 6 (.step 7 (.step 8 (.step 9 (.step 10 (.step 11 (.step 12 (.step 13 (.step 14 (.step 15 (.step 16 (.step 17 (.step 18 (.step 19 (.step 20 (.step 21 (.step 22 (.step 23 (.step 24 (.step 25 (.step 26 (.step 27 (.step 28 (.step 29 (.step 30 (.step 31 (.step 32 (.step 33 (.step 34 (.step 35 (.step 36 (.step 37 (.step 38 (.step 39 (.step 40 (.step 41 .nil)))))))))))))))))))))))))))))))))))))))))) (by kernel_rfl) (by kernel_rfl) (by kernel_rfl) (by kernel_rfl) (by intro _ _ d_ _ _ h_; cases d_ <;> first | exact h_ | (dsimp +zetaDelta only at h_ ⊢; exact h_)) (fun w' => ∃ p : Wld X [], w' = p.val) (wld_start _ _) ?_
        have hG_ := @wldC X
        (refine tree_quiet gtA (by rfl) (by rfl) (fun K_ hK_ => ?_); go_big_quiet_op; refine hK_ _ ?_; clear hK_ K_)
        (refine tree_quiet gtA (by rfl) (by rfl) (fun K_ hK_ => ?_); go_big_quiet_op; refine hK_ _ ?_; clear hK_ K_)
        (refine tree_quiet gtA (by rfl) (by rfl) (fun K_ hK_ => ?_); go_big_quiet_op; refine hK_ _ ?_; clear hK_ K_)
        (refine tree_quiet gtA (by rfl) (by rfl) (fun K_ hK_ => ?_); go_big_quiet_op; refine hK_ _ ?_; clear hK_ K_)
        (refine tree_quiet gtA (by rfl) (by rfl) (fun K_ hK_ => ?_); go_big_quiet_op; refine hK_ _ ?_; clear hK_ K_)
        (refine tree_quiet gtA (by rfl) (by rfl) (fun K_ hK_ => ?_); go_big_quiet_op; refine hK_ _ ?_; clear hK_ K_)
        (refine tree_quiet gtA (by rfl) (by rfl) (fun K_ hK_ => ?_); go_big_quiet_op; refine hK_ _ ?_; clear hK_ K_)
        (refine tree_quiet gtA (by rfl) (by rfl) (fun K_ hK_ => ?_); go_big_quiet_op; refine hK_ _ ?_; clear hK_ K_)
        (refine tree_quiet gtA (by rfl) (by rfl) (fun K_ hK_ => ?_); go_big_quiet_op; refine hK_ _ ?_; clear hK_ K_)
        (refine tree_quiet gtA (by rfl) (by rfl) (fun K_ hK_ => ?_); go_big_quiet_op; refine hK_ _ ?_; clear hK_ K_)
        (refine tree_quiet gtA (by rfl) (by rfl) (fun K_ hK_ => ?_); go_big_quiet_op; refine hK_ _ ?_; clear hK_ K_)
        (refine tree_quiet gtA (by rfl) (by rfl) (fun K_ hK_ => ?_); go_big_quiet_op; refine hK_ _ ?_; clear hK_ K_)
        (refine tree_quiet gtA (by rfl) (by rfl) (fun K_ hK_ => ?_); go_big_quiet_op; refine hK_ _ ?_; clear hK_ K_)
        (refine tree_quiet gtA (by rfl) (by rfl) (fun K_ hK_ => ?_); go_big_quiet_op; refine hK_ _ ?_; clear hK_ K_)
        (refine tree_quiet gtA (by rfl) (by rfl) (fun K_ hK_ => ?_); go_big_quiet_op; refine hK_ _ ?_; clear hK_ K_)
        (refine tree_quiet gtA (by rfl) (by rfl) (fun K_ hK_ => ?_); go_big_quiet_op; refine hK_ _ ?_; clear hK_ K_)
        (refine tree_quiet gtA (by rfl) (by rfl) (fun K_ hK_ => ?_); go_big_quiet_op; refine hK_ _ ?_; clear hK_ K_)
        (refine tree_quiet gtA (by rfl) (by rfl) (fun K_ hK_ => ?_); go_big_quiet_op; refine hK_ _ ?_; clear hK_ K_)
        (refine tree_quiet gtA (by rfl) (by rfl) (fun K_ hK_ => ?_); go_big_quiet_op; refine hK_ _ ?_; clear hK_ K_)
        (refine tree_quiet gtA (by rfl) (by rfl) (fun K_ hK_ => ?_); go_big_quiet_op; refine hK_ _ ?_; clear hK_ K_)
        (refine tree_quiet gtA (by rfl) (by rfl) (fun K_ hK_ => ?_); go_big_quiet_op; refine hK_ _ ?_; clear hK_ K_)
        (refine tree_quiet gtA (by rfl) (by rfl) (fun K_ hK_ => ?_); go_big_quiet_op; refine hK_ _ ?_; clear hK_ K_)
        (refine tree_quiet gtA (by rfl) (by rfl) (fun K_ hK_ => ?_); go_big_quiet_op; refine hK_ _ ?_; clear hK_ K_)
        (refine tree_quiet gtA (by rfl) (by rfl) (fun K_ hK_ => ?_); go_big_quiet_op; refine hK_ _ ?_; clear hK_ K_)
        (refine tree_quiet gtA (by rfl) (by rfl) (fun K_ hK_ => ?_); go_big_quiet_op; refine hK_ _ ?_; clear hK_ K_)
        (refine tree_quiet gtA (by rfl) (by rfl) (fun K_ hK_ => ?_); go_big_quiet_op; refine hK_ _ ?_; clear hK_ K_)
        (refine tree_quiet gtA (by rfl) (by rfl) (fun K_ hK_ => ?_); go_big_quiet_op; refine hK_ _ ?_; clear hK_ K_)
        (refine tree_quiet gtA (by rfl) (by rfl) (fun K_ hK_ => ?_); go_big_quiet_op; refine hK_ _ ?_; clear hK_ K_)
        (refine tree_quiet gtA (by rfl) (by rfl) (fun K_ hK_ => ?_); go_big_quiet_op; refine hK_ _ ?_; clear hK_ K_)
        (refine tree_quiet gtA (by rfl) (by rfl) (fun K_ hK_ => ?_); go_big_quiet_op; refine hK_ _ ?_; clear hK_ K_)
        (refine tree_quiet gtA (by rfl) (by rfl) (fun K_ hK_ => ?_); go_big_quiet_op; refine hK_ _ ?_; clear hK_ K_)
        (refine tree_quiet gtA (by rfl) (by rfl) (fun K_ hK_ => ?_); go_big_quiet_op; refine hK_ _ ?_; clear hK_ K_)
        (refine tree_quiet gtA (by rfl) (by rfl) (fun K_ hK_ => ?_); go_big_quiet_op; refine hK_ _ ?_; clear hK_ K_)
        (refine tree_quiet gtA (by rfl) (by rfl) (fun K_ hK_ => ?_); go_big_quiet_op; refine hK_ _ ?_; clear hK_ K_)
        (refine tree_quiet gtA (by rfl) (by rfl) (fun K_ hK_ => ?_); go_big_quiet_op; refine hK_ _ ?_; clear hK_ K_)
        (refine tree_quiet gtA (by rfl) (by rfl) (fun K_ hK_ => ?_); go_big_quiet_op; refine hK_ _ ?_; clear hK_ K_)
        (refine tree_quiet gtA (by rfl) (by rfl) (fun K_ hK_ => ?_); go_big_quiet_op; refine hK_ _ ?_; clear hK_ K_)
        (refine tree_quiet gtA (by rfl) (by rfl) (fun K_ hK_ => ?_); go_big_quiet_op; refine hK_ _ ?_; clear hK_ K_)
        (refine tree_quiet gtA (by rfl) (by rfl) (fun K_ hK_ => ?_); go_big_quiet_op; refine hK_ _ ?_; clear hK_ K_)
        (refine tree_quiet gtA (by rfl) (by rfl) (fun K_ hK_ => ?_); go_big_quiet_op; refine hK_ _ ?_; clear hK_ K_)
        (refine tree_quiet gtA (by rfl) (by rfl) (fun K_ hK_ => ?_); go_big_quiet_op; refine hK_ _ ?_; clear hK_ K_)
        (refine tree_quiet gtA (by rfl) (by rfl) (fun K_ hK_ => ?_); go_big_quiet_op; refine hK_ _ ?_; clear hK_ K_)
        refine tree_nil ?_
        clear hG_
        go_wp2_with fail
        go_roundw
        case rel => exact ⟨j + 1, hltj, by go_num, bthen HBX.out (bdrew1 (brefl _))⟩
        case measure => simp [Go.RowKit.intOf]; omega
      · obtain rfl : mR = j := by omega
        have dj : decide ((mR : Int) < (mR : Int)) = false := by simp
        clear hltj hj h6 h7 hbv q7
        go_wp2_with fail
        clear q6 l6v l7v hzv
        go_loopw [105] (fun i wu => ∃ j : Nat, j ≤ mS ∧ i = .int .i64 (j : Nat) ∧ Below U.heap.size U wu) (fun i _ => mS - (Go.RowKit.intOf i).toNat)
        case atStart => exact ⟨0, Nat.zero_le _, rfl, HBVU.out⟩
        clear HBVU
        case round =>
          obtain ⟨j, hj, rfl, hbv⟩ := hrel
          rename World => wu
          have HBVU := Lib.hid hbv
          have hzv := hbv.size
          by_cases hltj : j < mS
          · obtain ⟨t, ht⟩ : ∃ s, subs[j]? = some s := ⟨_, List.getElem?_eq_getElem (by rw [← HMS.out]; exact hltj)⟩
            obtain ⟨s, hs⟩ : ∃ t, rsu[j]? = some t := ⟨_, List.getElem?_eq_getElem (by rw [HSL.out]; exact hltj)⟩
            have htd : t.d = s.d := by
              have := congrArg (fun l => l[j]?) HSD.out
              simp only [List.getElem?_map, hs, ht, Option.map_some, Option.some.injEq] at this
              exact this
            have ht5 := (HPU.out.each t (List.mem_of_getElem? ht)).below hbv
            have hs5 := (HRU.out.each s (List.mem_of_getElem? hs)).below hbv
            have s5 := HM3.out t (List.mem_of_getElem? ht)
            obtain ⟨bS, oS, hbS, hblS, hcS⟩ := flat_cells (f := SubR.enc) (z := 3) (fun _ => rfl) (by decide) (HPU.out.subs.below hbv) ht
            obtain ⟨bQ, oQ, hbQ, hblQ, hcQ⟩ := flat_cells (f := SubR.enc) (z := 3) (fun _ => rfl) (by decide) (HRU.out.subs.below hbv) hs
            have x0 := hcS 0 (by decide) _ rfl
            have x1 := hcS 1 (by decide) _ rfl
            have x2 := hcS 2 (by decide) _ rfl
            have y0 := hcQ 0 (by decide) _ rfl
            have y1 := hcQ 1 (by decide) _ rfl
            have y2 := hcQ 2 (by decide) _ rfl
            rw [Nat.add_zero] at x0 y0
            (try simp only at hbS hbQ)
            subst hbS hbQ
            have dj : decide ((j : Int) < (mS : Int)) = true := by simpa using hltj
            clear hs ht hcS hcQ
            obtain ⟨tco, tfl, ta, tn, tc, tbs⟩ := t
            obtain ⟨co, fl, sda, m, sdc, sbs⟩ := s
            have htd : (⟨tco, tfl, tbs⟩ : SubD9) = ⟨co, fl, sbs⟩ := htd
            injection htd with e1 e2 e3
            subst e1 e2 e3
            have htl : tbs.length = tn := ht5.len
            have hml : tbs.length = m := hs5.len
            obtain rfl : m = tn := by rw [← hml, htl]
            simp only at x0 x1 x2 y0 y1 y2 s5
            have HMD := Lib.hid hml
            have HTB := Lib.hid ht5.has
            have HSB := Lib.hid hs5.has
            simp only at HTB HSB
            obtain ⟨st, hst⟩ : ∃ st, st = str tbs := ⟨_, rfl⟩
            have HST := Lib.hid hst
            have b1 : ((tco : Int) != (tco : Int)) = false := bne_self_eq_false' _
            have b2 : ((tfl : Int) != (tfl : Int)) = false := bne_self_eq_false' _
            have h7 := (hbv.block g7 l7).trans H7.out
            have l7v := (Array.getElem?_eq_some_iff.1 h7).1
            clear htl hml ht5 hs5 hst
            go_wp2_with fail
            obtain ⟨X, hX⟩ : ∃ X, X = wu.alloc (Obj.cells #[.int .u32 (tco : Nat), .int .u32 (tfl : Nat), .slice ta m tc] 91) := ⟨_, rfl⟩
            have hbX : Below wu.heap.size wu X := by rw [hX]; exact balloc (brefl _) _
            have z11 : X.heap[wu.heap.size]? = some (.cells #[.int .u32 (tco : Nat), .int .u32 (tfl : Nat), .slice ta m tc] 91 (0, 0)) := by rw [hX, heap_push, if_pos rfl]
            have HBY := Lib.hid (fun W (hW : Below X.heap.size X W) => bytes_any ta m tc tbs W ((HTB.out.below hbX).below hW) HMD.out (by omega))
            have HSX := Lib.hid (fun W (hW : Below X.heap.size X W) => (HSB.out.below hbX).below hW)
            have HBN := Lib.hid (HBVU.out.trans (hbX.mono hzv))
            have q11 := fun o => cell_of_heap z11 o
            have l11 := (Array.getElem?_eq_some_iff.1 z11).1
            have q7 := fun o => cell_of_heap ((hbX.block g7 l7v).trans h7) o
            have l7X := Nat.lt_of_lt_of_le l7v hbX.size
            have y0 := (hbX.cell (p := ⟨bQ, oQ + j * 3, none⟩) hblQ).trans y0
            have y1 := (hbX.cell (p := ⟨bQ, oQ + j * 3 + 1, none⟩) hblQ).trans y1
            have y2 := (hbX.cell (p := ⟨bQ, oQ + j * 3 + 2, none⟩) hblQ).trans y2
            have lQ := Nat.lt_of_lt_of_le hblQ hbX.size
            rw [← hX]
            clear hX hbX z11 x0 x1 x2 hbv hblS h7
            generalize wu.heap.size = g11 at *
            have hsd0 : ∀ p : Wld X [], (convert 22 9 (.slice sda m sdc)).run Try.prog p.val = .ok (.string st) p.val := (fun p => by rw [HST.out]; exact run_str Try.underlying22 Try.underlying5 Try.underlying9 (has_wld (HSX.out X (Below.refl _ _)) p) HMD.out)
            refine wp_region_tree (.step 0 (.step 1 (.step 2 (.step 3 (.step 4 (.step 5 (.step 6 (.step 7 (.step 8 (.step 9 (.step 10 (.step 11 (.step 12 (.step 13 (.step 14 (.step 15 (.step 16 (.step 17 (.step 18 (.step 19 (.step 20 (.step 21 (.step 22 (.step 25 (.step 26 (.step 27 (.step 28 (.step 29 (.step 30 (.step 31 (.step 23 (.narrow (.step 24 (.step 32 (.step 33 .nil))))))))))))))))))))))))))))))))))) (by kernel_rfl) (by kernel_rfl) (by kernel_rfl) (by kernel_rfl) (by intro _ _ d_ _ _ h_; cases d_ <;> first | exact h_ | (dsimp +zetaDelta only at h_ ⊢; exact h_)) (fun w' => ∃ p : Wld X [], w' = p.val) (wld_start _ _) ?_
            have hG_ := @wldC X
            (refine tree_quiet gtA (by rfl) (by rfl) (fun K_ hK_ => ?_); go_big_quiet_op; refine hK_ _ ?_; clear hK_ K_)
            (refine tree_quiet gtA (by rfl) (by rfl) (fun K_ hK_ => ?_); go_big_quiet_op; refine hK_ _ ?_; clear hK_ K_)
            (refine tree_quiet gtA (by rfl) (by rfl) (fun K_ hK_ => ?_); go_big_quiet_op; refine hK_ _ ?_; clear hK_ K_)
            (refine tree_quiet gtA (by rfl) (by rfl) (fun K_ hK_ => ?_); go_big_quiet_op; refine hK_ _ ?_; clear hK_ K_)
            (refine tree_quiet gtA (by rfl) (by rfl) (fun K_ hK_ => ?_); go_big_quiet_op; refine hK_ _ ?_; clear hK_ K_)
            (refine tree_quiet gtA (by rfl) (by rfl) (fun K_ hK_ => ?_); go_big_quiet_op; refine hK_ _ ?_; clear hK_ K_)
            (refine tree_quiet gtA (by rfl) (by rfl) (fun K_ hK_ => ?_); go_big_quiet_op; refine hK_ _ ?_; clear hK_ K_)
            (refine tree_quiet gtA (by rfl) (by rfl) (fun K_ hK_ => ?_); go_big_quiet_op; refine hK_ _ ?_; clear hK_ K_)
            (refine tree_quiet gtA (by rfl) (by rfl) (fun K_ hK_ => ?_); go_big_quiet_op; refine hK_ _ ?_; clear hK_ K_)
            (refine tree_quiet gtA (by rfl) (by rfl) (fun K_ hK_ => ?_); go_big_quiet_op; refine hK_ _ ?_; clear hK_ K_)
            (refine tree_quiet gtA (by rfl) (by rfl) (fun K_ hK_ => ?_); go_big_quiet_op; refine hK_ _ ?_; clear hK_ K_)
            (refine tree_quiet gtA (by rfl) (by rfl) (fun K_ hK_ => ?_); go_big_quiet_op; refine hK_ _ ?_; clear hK_ K_)
            (refine tree_quiet gtA (by rfl) (by rfl) (fun K_ hK_ => ?_); go_big_quiet_op; refine hK_ _ ?_; clear hK_ K_)
            (refine tree_quiet gtA (by rfl) (by rfl) (fun K_ hK_ => ?_); go_big_quiet_op; refine hK_ _ ?_; clear hK_ K_)
            (refine tree_quiet gtA (by rfl) (by rfl) (fun K_ hK_ => ?_); go_big_quiet_op; refine hK_ _ ?_; clear hK_ K_)
            (refine tree_quiet gtA (by rfl) (by rfl) (fun K_ hK_ => ?_); go_big_quiet_op; refine hK_ _ ?_; clear hK_ K_)
            (refine tree_quiet gtA (by rfl) (by rfl) (fun K_ hK_ => ?_); go_big_quiet_op; refine hK_ _ ?_; clear hK_ K_)
            (refine tree_quiet gtA (by rfl) (by rfl) (fun K_ hK_ => ?_); go_big_quiet_op; refine hK_ _ ?_; clear hK_ K_)
            (refine tree_quiet gtA (by rfl) (by rfl) (fun K_ hK_ => ?_); go_big_quiet_op; refine hK_ _ ?_; clear hK_ K_)
            (refine tree_quiet gtA (by rfl) (by rfl) (fun K_ hK_ => ?_); go_big_quiet_op; refine hK_ _ ?_; clear hK_ K_)
            (refine tree_quiet gtA (by rfl) (by rfl) (fun K_ hK_ => ?_); go_big_quiet_op; refine hK_ _ ?_; clear hK_ K_)
            (refine tree_quiet gtA (by rfl) (by rfl) (fun K_ hK_ => ?_); go_big_quiet_op; refine hK_ _ ?_; clear hK_ K_)
            (refine tree_quiet gtA (by rfl) (by rfl) (fun K_ hK_ => ?_); go_big_quiet_op; refine hK_ _ ?_; clear hK_ K_)
            (refine tree_quiet gtA (by rfl) (by rfl) (fun K_ hK_ => ?_); go_big_quiet_op; refine hK_ _ ?_; clear hK_ K_)
            (refine tree_quiet gtA (by rfl) (by rfl) (fun K_ hK_ => ?_); go_big_quiet_op; refine hK_ _ ?_; clear hK_ K_)
            (refine tree_quiet gtA (by rfl) (by rfl) (fun K_ hK_ => ?_); go_big_quiet_op; refine hK_ _ ?_; clear hK_ K_)
            (refine tree_quiet gtA (by rfl) (by rfl) (fun K_ hK_ => ?_); go_big_quiet_op; refine hK_ _ ?_; clear hK_ K_)
            (refine tree_quiet gtA (by rfl) (by rfl) (fun K_ hK_ => ?_); go_big_quiet_op; refine hK_ _ ?_; clear hK_ K_)
            (refine tree_quiet gtA (by rfl) (by rfl) (fun K_ hK_ => ?_); go_big_quiet_op; refine hK_ _ ?_; clear hK_ K_)
            (refine tree_quiet gtA (by rfl) (by rfl) (fun K_ hK_ => ?_); go_big_quiet_op; refine hK_ _ ?_; clear hK_ K_)
            (refine tree_run gtA (by rfl) (by rfl) (fun K_ hK_ => ?_); have HK_ := Lib.hid hK_; clear hK_; go_wp2_with ((go_at_call 27; (with_reducible refine (HBY.out _ (by exact blw)).mono ?_); rintro e wb ⟨ab, cb, rfl, hown, kb1, kb2, kb3, hbb⟩; have hbc := bc hbb; have hbf := bf hbb; have hbz := hbb.size; (try simp only [World.size_alloc, World.size_drew] at hbz); have hXb : Below X.heap.size X wb := (show Below X.heap.size X _ from blw); have hsb : ∀ p : Wld wb [], (convert 22 9 (.slice ab m cb)).run Try.prog p.val = .ok (.string st) p.val := (fun p => by rw [HST.out]; exact str_wld' hown HMD.out [] (by simp) p); have hsd : ∀ p : Wld wb [], (convert 22 9 (.slice sda m sdc)).run Try.prog p.val = .ok (.string st) p.val := (fun p => by rw [HST.out]; exact run_str Try.underlying22 Try.underlying5 Try.underlying9 (has_wld (HSX.out wb hXb) p) HMD.out); have HXB := Lib.hid hXb; clear hown kb1 kb2 kb3 hXb)); refine HK_.out _ _ (wld_ofA) ?_; clear HK_)
            refine tree_move (by repeat (first | with_reducible exact same_below (brefl _) | with_reducible exact same_below (bdrew1 (brefl _)) | with_reducible assumption | with_reducible refine same_drew ?_ | (with_reducible refine same_set ?_ (by first | (left; simp; done) | (right; simp; done) | (right; simp; omega)) _) | with_reducible refine same_then ?_ (by assumption) | with_reducible refine same_alloc ?_ _ | exact same_below (brefl _) | exact same_realloc (by simp) | exact same_below (bdrew1 (brefl _)) | assumption | refine same_drew ?_ | refine same_then ?_ (by assumption) | refine same_alloc ?_ _ | (refine same_set ?_ (by first | (left; simp; done) | (right; simp; done) | (right; simp; omega)) _))) ?_; clear hG_; intro hG_
            (refine tree_quiet gtA (by rfl) (by rfl) (fun K_ hK_ => ?_); go_big_quiet_op; refine hK_ _ ?_; clear hK_ K_)
            (refine tree_quiet gtA (by rfl) (by rfl) (fun K_ hK_ => ?_); go_big_quiet_op; refine hK_ _ ?_; clear hK_ K_)
            (refine tree_quiet gtA (by rfl) (by rfl) (fun K_ hK_ => ?_); go_big_quiet_op; refine hK_ _ ?_; clear hK_ K_)
            refine tree_nil ?_
            clear hG_
            go_wp2_with fail
            go_roundw
            case rel => exact ⟨j + 1, hltj, by go_num, HBN.out.trans (HXB.out.mono HBN.out.size)⟩
            case measure => simp [Go.RowKit.intOf]; omega
          · obtain rfl : mS = j := by omega
            have dj : decide ((mS : Int) < (mS : Int)) = false := by simp
            clear hltj hj
            go_wp2_with fail
            go_roundw
            case rel => exact ⟨k + 1, hlt, by go_num, HBU.out.trans (HBVU.out.mono HBU.out.size)⟩
            case measure => simp [Go.RowKit.intOf]; omega
end Go.Proofs.Ythehcbbdkiomnaa
end
section

/- The walk of ChainReads. ChainReads returns true for whatever bytes, and changes nothing: chains are read as the document reads them. No condition beside the row's own. -/
namespace Go.Proofs.Ythehcbbdkiomnaa
open Go.RowKit Go.Lib

theorem bhas_of_has {L : Nat} {a : Option Addr} {bs : List UInt8} {w : World} (h : Has w a (bytesV bs)) (hL : w.heap.size ≤ L) (h0 : 0 < bs.length) : BHas L a bs w := by
  refine ⟨h, fun p hp => .inl ?_⟩
  obtain ⟨q, hq, hc⟩ := h 0 _ (List.getElem?_eq_getElem (by rw [bytesV_length]; exact h0))
  rw [hp] at hq
  cases hq
  have := cell_lt hc
  rw [add_block] at this
  omega
/-- What a list of chains of few bytes has. -/
theorem csd_small {bs : List UInt8} (hl : bs.length ≤ 4000) (hok : CsOk bs) : num bs 4 4 ≤ 4000 ∧ ∀ c ∈ csD bs (num bs 4 4), c.rules.length ≤ 4000 ∧ c.subs.length ≤ 4000 ∧ ∀ s ∈ c.subs, s.data.length ≤ 4000 := by
  have hM := posC_ge (bs := bs) (num bs 4 4) hok.each
  have hM2 := posC_le (bs := bs) hok.len (num bs 4 4) hok.each
  refine ⟨by omega, fun c hc => ?_⟩
  obtain ⟨i, hi, rfl⟩ := List.mem_map.1 hc
  have hf := hok.each i (List.mem_range.1 hi)
  obtain ⟨f1, f2, f3, f4⟩ := hf
  have hol := ownC_length f3
  have hr := f4.rules
  have hs := posS_ge (cb := ownC bs (posC bs i)) (p0 := 16 + 12 * num (ownC bs (posC bs i)) 8 4) _ f4.subs
  have hs2 := posS_le (cb := ownC bs (posC bs i)) (p0 := 16 + 12 * num (ownC bs (posC bs i)) 8 4) hr _ f4.subs
  refine ⟨?_, ?_, fun s hs => ?_⟩
  · show (rulesD _ _).length ≤ 4000
    rw [rulesD_length]; omega
  · show (subsD _ _).length ≤ 4000
    rw [subsD_length]; omega
  · obtain ⟨q, hq, rfl⟩ := List.mem_map.1 hs
    show ((List.drop _ _).take _).length ≤ 4000
    rw [List.length_take, List.length_drop]
    omega
theorem chs_small {bs : List UInt8} {rs : List ChR} {w : World} (hl : bs.length ≤ 4000) (hok : CsOk bs) (hd : rs.map ChR.d = csD bs (num bs 4 4)) (hr : ∀ r ∈ rs, r.In w) : rs.length = num bs 4 4 ∧ rs.length ≤ 4000 ∧ ∀ r ∈ rs, r.rules.length ≤ 4000 ∧ r.subs.length ≤ 4000 ∧ ∀ s ∈ r.subs, s.n ≤ 4000 := by
  obtain ⟨h1, h2⟩ := csd_small hl hok
  have hlen : rs.length = num bs 4 4 := by have := congrArg List.length hd; rwa [List.length_map, csD_length] at this
  refine ⟨hlen, by omega, fun r hm => ?_⟩
  obtain ⟨h3, h4, h5⟩ := h2 r.d (by rw [← hd]; exact List.mem_map_of_mem hm)
  refine ⟨h3, ?_, fun s hs => ?_⟩
  · have : (r.subs.map SubR.d).length ≤ 4000 := h4
    rwa [List.length_map] at this
  · have h6 : s.bs.length ≤ 4000 := h5 s.d (List.mem_map_of_mem hs)
    have := ((hr r hm).each s hs).len
    omega
set_option maxRecDepth 100000 in
set_option maxHeartbeats 6400000 in
theorem chainReads_walk (a : Option Addr) (n c : Nat) (bs : List UInt8) (w : World) (h : Has w a (bytesV bs)) (hl : bs.length = n) (hn : n ≤ c) (hc : c ≤ maxLen) :
    Calls Try.prog 6 #[.slice a n c] w fun e w' => e = .returned (.bool true) ∧ Below w.heap.size w w' := by
  have hAC := allocC
  have hAF := allocF
  have HSP := Lib.hid (fun W (_ : Below w.heap.size w W) => speaks19_any W)
  have HH := Lib.hid h
  have HL := Lib.hid hl
  by_cases h2000 : n ≤ 2000
  case neg =>
    have d1 : decide (2000 < (n : Int)) = true := by simp; omega
    clear h hl h2000
    go_enter Try.func6, Try.ntmps6
    go_wp2_with (first | (go_at_call 21; (with_reducible refine (HSP.out _ (by exact blw)).mono ?_); rintro e w1 ⟨rfl, hb1⟩; have h1c := bc hb1; have h1f := bf hb1; have h1z := hb1.size; try simp only [World.size_alloc, World.size_drew] at h1z))
    go_ret
    exact ⟨rfl, blw⟩
  have d1 : decide (2000 < (n : Int)) = false := by simp; omega
  have d2 : decide (2000 < n) = false := by simp; omega
  have HRD := Lib.hid (fun W (hW : Below w.heap.size w W) => hread_any w.heap.size a n c bs W (fun h0 => (bhas_of_has h (Nat.le_refl _) h0).below hW) hl hn hc (by omega) hW.size)
  have HRF := Lib.hid (fun W (hW : Below w.heap.size w W) => hrefread_any a n c bs W (h.below hW) hl hn hc (by omega))
  clear h hl
  go_enter Try.func6, Try.ntmps6
  go_wp2_with (first | (go_at_call 21; (with_reducible refine (HSP.out _ (by exact blw)).mono ?_); rintro e w1 ⟨rfl, hb1⟩; have h1c := bc hb1; have h1f := bf hb1; have h1z := hb1.size; try simp only [World.size_alloc, World.size_drew] at h1z))
  have HB1 := Lib.hid hb1
  clear h1c h1f h1z hb1
  refine (HRD.out _ HB1.out).mono ?_
  rintro e w2 ⟨(⟨rs, ao, co, hok, hd, rfl, hrs⟩ | ⟨hno, rfl⟩), hb2⟩
  case inr =>
    have HB2 := Lib.hid (HB1.out.trans (hb2.mono HB1.out.size))
    have HNO := Lib.hid hno
    clear hb2 hno
    go_wp2_with fail
    refine (HRF.out _ HB2.out).mono ?_
    rintro e w3 ⟨(⟨_, _, _, hok, _⟩ | ⟨_, rfl⟩), hb3⟩
    · exact absurd hok HNO.out
    have HB3 := Lib.hid (HB2.out.trans (hb3.mono HB2.out.size))
    clear hb3
    go_wp2_with fail
    go_ret
    exact ⟨rfl, HB3.out⟩
  have HB2 := Lib.hid (HB1.out.trans (hb2.mono HB1.out.size))
  have HOK := Lib.hid hok
  have HD := Lib.hid hd
  have HRS := Lib.hid hrs
  clear hb2 hok hd hrs
  obtain ⟨N, hN⟩ : ∃ N, N = rs.length := ⟨_, rfl⟩
  have HN := Lib.hid hN
  rw [← hN]
  clear hN
  go_wp2_with fail
  refine (HRF.out _ HB2.out).mono ?_
  rintro e w3 ⟨(⟨ds, ad, cd, _, hdd, hdl, rfl, hro, hin, hsu⟩ | ⟨hno, _⟩), hb3⟩
  case inr => exact absurd HOK.out hno
  have HB3 := Lib.hid (HB2.out.trans (hb3.mono HB2.out.size))
  have hpin : ∀ r ∈ rs, r.In w3 := fun r hr => (HRS.out.each r hr).toIn.below hb3
  have hqin : ∀ r ∈ ds, r.In w3 := fun r hr => ⟨(hin r hr).rules.1, (hin r hr).subs.1, fun s hs => (hsu r hr s hs).below hb3⟩
  obtain ⟨k1, k2, k3⟩ := chs_small (by rw [HL.out]; omega) HOK.out HD.out hpin
  have hP := (has_of_owns (HRS.out.below hb3).row)
  have hSM := fun W (hW : Below w3.heap.size w3 W) => same_any ao N co rs ad cd ds W HN.out.symm (by rw [HD.out, hdd]) (hP.below hW) (fun r hr => (hpin r hr).below hW) ((has_of_owns hro).below hW) (fun r hr => (hqin r hr).below hW) k3 (by rw [HN.out]; exact k2)
  rw [← k1, ← HN.out]
  have HSM := Lib.hid hSM
  clear hSM hP k1 k2 k3 hpin hqin hb3 hdd hdl hro hin hsu
  go_wp2_with (first | (go_at_call 24; (with_reducible refine (HSM.out _ (brefl _)).mono ?_); rintro e w4 ⟨rfl, hb4⟩; have h4c := bc hb4; have h4f := bf hb4; have h4z := hb4.size; try simp only [World.size_alloc, World.size_drew] at h4z))
  go_ret
  exact ⟨rfl, HB3.out.trans (hb4.mono HB3.out.size)⟩

open Go.ChangeShapes Go.WideShapes Go.ChangeAt Go.RowKit
open Go.ChangeMaps (open_string shut_string)

set_option maxRecDepth 100000 in
theorem chainReads_walks (H : Type) (enc : TypeId × Value → H) : Walks H enc 6 [22] := by
  intro W base args ds p hval hA _
  obtain ⟨v0, vs0, d0, ds0, p0, q0, hargs, rfl, rfl, h0, r0⟩ := trodAll_cons hA
  obtain ⟨rfl, rfl, rfl⟩ := trodAll_nil r0
  obtain rfl : args = #[v0] := by cases args; simp_all
  obtain ⟨a1, n1, c1, bs, rfl, hb, hl, hn1, hc1, hA1⟩ := open_bytes Try.underlying22 Try.underlying5 (by kernel_rfl) (hval 0 22 v0 rfl rfl) h0
  exact chainReads_walk a1 n1 c1 bs W hb hl hn1 hc1

set_option maxRecDepth 100000 in
theorem chainReads_lifted (os : Os) (started : os.Started) (H : Type) (enc : TypeId × Value → H) :
    ReturnsInHanded {} Try.checked os 6 .any (Rows.chainReadsSpec.pre6 enc Try.prog Try.f6 Rows.chainReadsRow.domain false) (Rows.chainReadsSpec.post enc Try.prog Try.f6 false true false false) :=
  lift_law (s := Rows.chainReadsSpec) (fn := Try.f6) started (by kernel_rfl) Try.func6
    (ChangeSpec.witness6 (enc := enc) (C := Try.checked) false ⟨#[], #[.slice none 0 0], []⟩ 8 (by kernel_rfl) (by kernel_rfl) (by kernel_rfl) (by kernel_rfl))
    rfl rfl (fun ds h => by match ds, h with | [d0], _ => rfl) (by intro t ht; simp [Try.params6] at ht; first | (subst ht; exact ⟨by kernel_rfl, of_decide_eq_true (by kernel_rfl)⟩) | (obtain rfl | rfl := ht <;> exact ⟨by kernel_rfl, of_decide_eq_true (by kernel_rfl)⟩) | (obtain rfl | rfl | rfl := ht <;> exact ⟨by kernel_rfl, of_decide_eq_true (by kernel_rfl)⟩) | (obtain rfl | rfl | rfl | rfl := ht <;> exact ⟨by kernel_rfl, of_decide_eq_true (by kernel_rfl)⟩))
    (by rw [Try.params6]; exact chainReads_walks H enc)
theorem chainReads_over : Rows.chainReadsRow.holds Try.pinned (OpenSpec.ofChange Rows.chainReadsSpec) :=
  OpenClaim.holds_of_wide 6 Try.f6 rfl rfl rfl rfl rfl rfl rfl ⟨rfl, rfl, rfl, rfl, rfl⟩ rfl rfl rfl rfl rfl (by kernel_rfl) Try.func6 (by kernel_rfl)
    (of_decide_eq_true (by kernel_rfl)) (by unfold Func.isWrapper; first | (rw [if_pos (by decide +kernel)]; kernel_rfl) | (rw [if_neg (by decide +kernel)]; exact ⟨rfl, rfl⟩))
    (fun os started H enc _ => chainReads_lifted os started H enc)
theorem chainReads_proved : Rows.ChainReadsSaid := chainReads_over
#print axioms chainReads_proved
end Go.Proofs.Ythehcbbdkiomnaa
end
