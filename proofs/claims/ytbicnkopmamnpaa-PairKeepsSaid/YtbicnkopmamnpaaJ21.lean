/- Joined from: PrRefD PrSpoil. -/
import Derived.Test.YtbicnkopmamnpaaJ01
import Derived.Test.YtbicnkopmamnpaaJ20
import Derived.Test.YtbicnkopmamnpaaJ17
section

/- The document's Get of a subtable of distances. Conditions: a subtable that was read; sizes. -/
namespace Go.Proofs.Ytbicnkopmamnpaa
open Go.RowKit Go.Lib

set_option maxRecDepth 100000 in
set_option maxHeartbeats 1600000 in
theorem signed22_any (a : Option Addr) (n c : Nat) (bs : List UInt8) (S k : Nat) (zk zs : Int) (hzk : zk = (k : Nat)) (hzs : zs = (S : Nat)) (hS : S = 2 ∨ S = 4) (w : World) (h : Has w a (bytesV bs)) (hl : bs.length = n) (hn : n ≤ maxLen) (hk : k + S ≤ n) :
    Calls Try.prog 103 #[.slice a n c, .int .i64 zk, .int .i64 zs] w fun e w' => e = .returned (.int .i64 (disV bs S k)) ∧ w = w' := by
  subst hzk hzs
  rcases hS with rfl | rfl
  · have HU := Lib.hid (u_in a n c k 2 bs w h hl hk (by decide) hn)
    have hx := num2_lt bs k
    have HS := Lib.hid (s16_any ((num bs k 2 : Nat) : Int) w (by omega))
    have HE := Lib.hid (show (if 32768 ≤ ((num bs k 2 : Nat) : Int) then ((num bs k 2 : Nat) : Int) - 65536 else ((num bs k 2 : Nat) : Int)) = disV bs 2 k from by rw [show disV bs 2 k = s16 (num bs k 2) from rfl]; unfold s16; split <;> split <;> omega)
    rw [HE.out] at HS
    clear h hl HE
    generalize num bs k 2 = x at *
    generalize disV bs 2 k = z at *
    change Calls Try.prog 103 #[.slice a n c, .int .i64 (k : Nat), .int .i64 2] w _
    go_enter Try.func103, Try.ntmps103
    go_wp2_with (first | (go_at_call 70; (refine HU.out.mono ?_); rintro e w_ ⟨rfl, rfl⟩) | (go_at_call 146; (refine HS.out.mono ?_); rintro e w_ ⟨rfl, rfl⟩))
    go_ret
    exact ⟨rfl, rfl⟩
  · have HU := Lib.hid (u_in a n c k 4 bs w h hl hk (by decide) hn)
    have hx := num4_lt bs k
    have HS := Lib.hid (s32_any ((num bs k 4 : Nat) : Int) w (by omega))
    have HE := Lib.hid (show (if 2147483648 ≤ ((num bs k 4 : Nat) : Int) then ((num bs k 4 : Nat) : Int) - 4294967296 else ((num bs k 4 : Nat) : Int)) = disV bs 4 k from by rw [show disV bs 4 k = s32 (num bs k 4) from rfl]; unfold s32; split <;> split <;> omega)
    rw [HE.out] at HS
    clear h hl HE
    generalize num bs k 4 = x at *
    generalize disV bs 4 k = z at *
    change Calls Try.prog 103 #[.slice a n c, .int .i64 (k : Nat), .int .i64 4] w _
    go_enter Try.func103, Try.ntmps103
    go_wp2_with (first | (go_at_call 70; (refine HU.out.mono ?_); rintro e w_ ⟨rfl, rfl⟩) | (go_at_call 145; (refine HS.out.mono ?_); rintro e w_ ⟨rfl, rfl⟩))
    go_ret
    exact ⟨rfl, rfl⟩
/-- The document's table. -/
def DT (bs : List UInt8) (kind : Int) (r1 r2 : List RP) (a : Option Addr) (n c : Nat) (v : Array Value) (w : World) : Prop :=
  (kind = 0 ∧ v = #[.int .i64 0, .int .i64 (num bs 0 4 : Nat), .int .i64 2, .int .i64 1, .slice a n c, .slice none 0 0, .slice none 0 0, .slice none 0 0, .slice none 0 0, .slice none 0 0]) ∨
  (∃ at_ S U a1 c1 a2 c2, ((kind = 2 ∧ at_ = 4 ∧ S = 2 ∧ U = 1) ∨ (kind = 6 ∧ at_ = 8 ∧ S = sizI bs ∧ U = sizI bs)) ∧ v = #[.int .i64 kind, .int .i64 0, .int .i64 (S : Nat), .int .i64 (U : Nat), .slice a n c, .slice (adv a c (num bs (at_ + 8) 4)) (n - num bs (at_ + 8) 4) (c - num bs (at_ + 8) 4), .slice (adv a c (num bs at_ 4)) (n - num bs at_ 4) (c - num bs at_ 4), .slice a1 r1.length c1, .slice (adv a c (num bs (at_ + 4) 4)) (n - num bs (at_ + 4) 4) (c - num bs (at_ + 4) 4), .slice a2 r2.length c2] ∧ Has w a1 (encRs r1) ∧ Has w a2 (encRs r2))
theorem DT.below {bs : List UInt8} {kind : Int} {r1 r2 : List RP} {a : Option Addr} {n c : Nat} {v : Array Value} {w w' : World} (h : DT bs kind r1 r2 a n c v w) (hb : Below w.heap.size w w') : DT bs kind r1 r2 a n c v w' := by
  rcases h with h | ⟨at_, S, U, a1, c1, a2, c2, h1, h2, h3, h4⟩
  · exact .inl h
  · exact .inr ⟨at_, S, U, a1, c1, a2, c2, h1, h2, h3.below hb, h4.below hb⟩
/-- What the document's Read answers. -/
def PRefIs (a : Option Addr) (n c : Nat) (bs : List UInt8) (kind : Int) (glyphs : Nat) (w : World) (e : Ending) (w' : World) : Prop :=
  ((∃ r1 r2 v, PrOk bs kind glyphs r1 r2 ∧ e = .returned (.tuple #[.agg v, .bool true]) ∧ DT bs kind r1 r2 a n c v w') ∨ ((∀ r1 r2, ¬ PrOk bs kind glyphs r1 r2) ∧ NoT e)) ∧ Below w.heap.size w w'
theorem pref_any (kind : Int) (hkind : kind = 0 ∨ kind = 2 ∨ kind = 6) (a : Option Addr) (n c : Nat) (bs : List UInt8) (glyphs : Nat) (zg : Int) (hzg : zg = (glyphs : Nat)) (w : World) (h : Has w a (bytesV bs)) (hl : bs.length = n) (hn : n ≤ c) (hc : c ≤ maxLen) (h20 : n ≤ 4000) (hg1 : 1 ≤ glyphs) (hg2 : glyphs ≤ 65535) :
    Calls Try.prog 54 #[.int .i64 kind, .slice a n c, .int .i64 zg] w (PRefIs a n c bs kind glyphs w) := by
  subst hzg
  rcases hkind with rfl | rfl | rfl
  · refine (prefL_any a n c bs (glyphs : Nat) w h hl hn hc h20).mono ?_
    rintro e w' ⟨(⟨hok, he⟩ | ⟨hno, he⟩), hb⟩
    · exact ⟨.inl ⟨[], [], _, .inl ⟨rfl, hok, rfl, rfl⟩, he, .inl ⟨rfl, rfl⟩⟩, hb⟩
    · exact ⟨.inr ⟨fun r1 r2 hk => by rcases hk with ⟨_, hk, _⟩ | ⟨hk, _⟩ | ⟨hk, _⟩; exact hno hk; omega; omega, he⟩, hb⟩
  · refine (prefG2_any a n c bs glyphs w h hl hn hc h20 hg1 hg2).mono ?_
    rintro e w' ⟨(⟨r1, r2, a1, c1, a2, c2, hok, he, h1, h2⟩ | ⟨hno, he⟩), hb⟩
    · exact ⟨.inl ⟨r1, r2, _, .inr (.inl ⟨rfl, hok⟩), he, .inr ⟨4, 2, 1, a1, c1, a2, c2, .inl ⟨rfl, rfl, rfl, rfl⟩, rfl, h1, h2⟩⟩, hb⟩
    · exact ⟨.inr ⟨fun r1 r2 hk => by rcases hk with ⟨hk, _⟩ | ⟨_, hk⟩ | ⟨hk, _⟩; omega; exact hno _ _ hk; omega, he⟩, hb⟩
  · refine (prefG6_any a n c bs glyphs w h hl hn hc h20 hg1 hg2).mono ?_
    rintro e w' ⟨(⟨r1, r2, a1, c1, a2, c2, hok, he, h1, h2⟩ | ⟨hno, he⟩), hb⟩
    · exact ⟨.inl ⟨r1, r2, _, .inr (.inr ⟨rfl, hok⟩), he, .inr ⟨8, _, _, a1, c1, a2, c2, .inr ⟨rfl, rfl, rfl, rfl⟩, rfl, h1, h2⟩⟩, hb⟩
    · exact ⟨.inr ⟨fun r1 r2 hk => by rcases hk with ⟨hk, _⟩ | ⟨hk, _⟩ | ⟨_, hk⟩; omega; omega; exact hno _ _ hk, he⟩, hb⟩
set_option maxRecDepth 100000 in
set_option maxHeartbeats 3200000 in
theorem prefgetL_any (a : Option Addr) (n c : Nat) (bs : List UInt8) (l r : Int) (w : World) (h : Has w a (bytesV bs)) (hl : bs.length = n) (hn : n ≤ maxLen) (h20 : n ≤ 4000) (hok : PListOk bs) :
    Calls Try.prog 56 #[.agg #[.int .i64 0, .int .i64 (num bs 0 4 : Nat), .int .i64 2, .int .i64 1, .slice a n c, .slice none 0 0, .slice none 0 0, .slice none 0 0, .slice none 0 0, .slice none 0 0], .int .i64 l, .int .i64 r] w fun e w' => e = .returned (.int .i64 (distP bs l r)) ∧ Below w.heap.size w w' := by
  have hAC := allocC
  have hAF := allocF
  have HU := Lib.hid (fun (k : Nat) (z : Int) (hz : z = (k : Nat)) (hk : k + 2 ≤ n) (W : World) (hW : Below w.heap.size w W) => show Calls Try.prog 70 #[.slice a n c, .int .i64 z, .int .i64 2] W fun e w' => e = .returned (.int .i64 (num bs k 2 : Nat)) ∧ W = w' from by subst hz; exact u_in a n c k 2 bs W (h.below hW) hl hk (by decide) hn)
  have HSG := Lib.hid (fun (k : Nat) (z : Int) (hz : z = (k : Nat)) (hk : k + 2 ≤ n) (W : World) (hW : Below w.heap.size w W) => signed22_any a n c bs 2 k z 2 hz rfl (.inl rfl) W (h.below hW) hl hn hk)
  have HL := Lib.hid hl
  have HOK := Lib.hid hok
  have hlen := hok.len
  rw [hl] at hlen
  obtain ⟨N, hN⟩ : ∃ N, N = num bs 0 4 := ⟨_, rfl⟩
  have HN := Lib.hid hN
  rw [← hN] at hlen ⊢
  clear h hl hok hN
  obtain ⟨W, hW⟩ : ∃ W, W = w.alloc (Obj.cells #[.int .i64 0, .int .i64 (N : Nat), .int .i64 2, .int .i64 1, .slice a n c, .slice none 0 0, .slice none 0 0, .slice none 0 0, .slice none 0 0, .slice none 0 0] 104) := ⟨_, rfl⟩
  have hbW : Below w.heap.size w W := by rw [hW]; exact balloc (brefl w) _
  have x3 : W.heap[w.heap.size]? = some (.cells #[.int .i64 0, .int .i64 (N : Nat), .int .i64 2, .int .i64 1, .slice a n c, .slice none 0 0, .slice none 0 0, .slice none 0 0, .slice none 0 0, .slice none 0 0] 104 (0, 0)) := by rw [hW]; exact (heap_push _ _ _).trans (if_pos rfl)
  have q3 := fun o => cell_of_heap x3 o
  have l3 := (Array.getElem?_eq_some_iff.1 x3).1
  have HBW := Lib.hid hbW
  clear hbW x3
  go_enter Try.func56, Try.ntmps56
  go_wp2_with fail
  rw [← hW]
  clear hW
  go_loopw [7] (fun i wr => ∃ j : Nat, j ≤ N ∧ i = .int .i64 (j : Nat) ∧ (∀ i, i < j → ¬ (((num bs (16 + 6 * i) 2 : Nat) : Int) = l ∧ ((num bs (18 + 6 * i) 2 : Nat) : Int) = r)) ∧ wr = W) (fun i _ => N - (Go.RowKit.intOf i).toNat)
  case atStart => exact ⟨0, Nat.zero_le _, rfl, fun i h => (by omega), rfl⟩
  case round =>
    obtain ⟨j, hj, rfl, hno, rfl⟩ := hrel
    have HNO := Lib.hid hno
    clear hno
    by_cases hlt : j < N
    · have hu1 := HU.out (16 + 6 * j)
      have hu2 := HU.out (18 + 6 * j)
      have hs := HSG.out (20 + 6 * j)
      rw [show disV bs 2 (20 + 6 * j) = s16 (num bs (20 + 6 * j) 2) from by unfold disV; rw [if_neg (by decide)]] at hs
      have b1 := num2_lt bs (16 + 6 * j)
      have b2 := num2_lt bs (18 + 6 * j)
      have HK := Lib.hid (num4_two bs (16 + 6 * j))
      obtain ⟨x, hx⟩ : ∃ x, x = num bs (16 + 6 * j) 2 := ⟨_, rfl⟩
      obtain ⟨y, hy⟩ : ∃ y, y = num bs (18 + 6 * j) 2 := ⟨_, rfl⟩
      rw [show 16 + 6 * j + 2 = 18 + 6 * j by omega, ← hx, ← hy] at HK
      rw [← hx] at hu1 b1
      rw [← hy] at hu2 b2
      have HX := Lib.hid hx
      have HY := Lib.hid hy
      have HU1 := Lib.hid hu1
      have HU2 := Lib.hid hu2
      have HS := Lib.hid hs
      have w1 : IntKind.i64.wrap (6 * (j : Int)) = 6 * (j : Int) := IntWalk.i64_in _ (by omega)
      have w2 : IntKind.i64.wrap (16 + 6 * (j : Int)) = 16 + 6 * (j : Int) := IntWalk.i64_in _ (by omega)
      have w3 : IntKind.i64.wrap (18 + 6 * (j : Int)) = 18 + 6 * (j : Int) := IntWalk.i64_in _ (by omega)
      have w4 : IntKind.i64.wrap (20 + 6 * (j : Int)) = 20 + 6 * (j : Int) := IntWalk.i64_in _ (by omega)
      clear hx hy hu1 hu2 hs
      by_cases m1 : (x : Int) = l
      · have e1 : ((x : Int) == l) = true := by simpa using m1
        by_cases m2 : (y : Int) = r
        · have e2 : ((y : Int) == r) = true := by simpa using m2
          have HD := Lib.hid (show distP bs l r = s16 (num bs (20 + 6 * j) 2) from by rw [← m1, ← m2]; exact distP_at HOK.out (by rw [← HN.out]; exact hlt) b1 b2 HK.out)
          clear m1 m2
          go_wp2_with (first
            | (go_at_call 70; (with_reducible refine (HU1.out _ (by omega) (by omega) _ HBW.out).mono ?_); rintro e w_ ⟨rfl, rfl⟩)
            | (go_at_call 70; (with_reducible refine (HU2.out _ (by omega) (by omega) _ HBW.out).mono ?_); rintro e w_ ⟨rfl, rfl⟩)
            | (go_at_call 103; (with_reducible refine (HS.out _ (by omega) (by omega) _ HBW.out).mono ?_); rintro e w_ ⟨rfl, rfl⟩))
          go_ret
          exact ⟨by rw [HD.out]; rfl, HBW.out⟩
        · have e2 : ((y : Int) == r) = false := by simpa using m2
          have HNX := Lib.hid (show ∀ i, i < j + 1 → ¬ (((num bs (16 + 6 * i) 2 : Nat) : Int) = l ∧ ((num bs (18 + 6 * i) 2 : Nat) : Int) = r) from fun i hi h => by
            by_cases e : i = j
            · subst e; rw [← HY.out] at h; exact m2 h.2
            · exact HNO.out i (by omega) h)
          clear m1 m2
          go_wp2_with (first
            | (go_at_call 70; (with_reducible refine (HU1.out _ (by omega) (by omega) _ HBW.out).mono ?_); rintro e w_ ⟨rfl, rfl⟩)
            | (go_at_call 70; (with_reducible refine (HU2.out _ (by omega) (by omega) _ HBW.out).mono ?_); rintro e w_ ⟨rfl, rfl⟩))
          go_roundw
          case rel => exact ⟨j + 1, hlt, by go_num, HNX.out, trivial⟩
          case measure => simp [Go.RowKit.intOf]; omega
      · have e1 : ((x : Int) == l) = false := by simpa using m1
        have HNX := Lib.hid (show ∀ i, i < j + 1 → ¬ (((num bs (16 + 6 * i) 2 : Nat) : Int) = l ∧ ((num bs (18 + 6 * i) 2 : Nat) : Int) = r) from fun i hi h => by
          by_cases e : i = j
          · subst e; rw [← HX.out] at h; exact m1 h.1
          · exact HNO.out i (by omega) h)
        clear m1
        go_wp2_with (go_at_call 70; (with_reducible refine (HU1.out _ (by omega) (by omega) _ HBW.out).mono ?_); rintro e w_ ⟨rfl, rfl⟩)
        go_roundw
        case rel => exact ⟨j + 1, hlt, by go_num, HNX.out, trivial⟩
        case measure => simp [Go.RowKit.intOf]; omega
    · obtain rfl : N = j := by omega
      have HD := Lib.hid (show distP bs l r = 0 from distP_no fun i hi => HNO.out i (by rw [HN.out]; exact hi))
      go_wp2_with fail
      go_ret
      exact ⟨by rw [HD.out]; rfl, HBW.out⟩
set_option maxRecDepth 100000 in
set_option maxHeartbeats 3200000 in
theorem prefgetG_any (kind : Int) (hk0 : kind ≠ 0) (a : Option Addr) (n c : Nat) (bs : List UInt8) (at_ S U glyphs : Nat) (r1 r2 : List RP) (a1 a2 : Option Addr) (c1 c2 : Nat) (l r : Int) (w : World) (h : Has w a (bytesV bs)) (hl : bs.length = n) (hn : n ≤ c) (hc : c ≤ maxLen) (h20 : n ≤ 4000) (hok : GridOk bs at_ S U glyphs r1 r2) (hg2 : glyphs ≤ 65535) (hS : S = 2 ∨ S = 4) (hU : U ≤ 4) (h1 : Has w a1 (encRs r1)) (h2 : Has w a2 (encRs r2)) (hx : -9223372036854775808 ≤ l ∧ l ≤ 9223372036854775807) (hy : -9223372036854775808 ≤ r ∧ r ≤ 9223372036854775807) :
    Calls Try.prog 56 #[.agg #[.int .i64 kind, .int .i64 0, .int .i64 (S : Nat), .int .i64 (U : Nat), .slice a n c, .slice (adv a c (num bs (at_ + 8) 4)) (n - num bs (at_ + 8) 4) (c - num bs (at_ + 8) 4), .slice (adv a c (num bs at_ 4)) (n - num bs at_ 4) (c - num bs at_ 4), .slice a1 r1.length c1, .slice (adv a c (num bs (at_ + 4) 4)) (n - num bs (at_ + 4) 4) (c - num bs (at_ + 4) 4), .slice a2 r2.length c2], .int .i64 l, .int .i64 r] w fun e w' => e = .returned (.int .i64 (distG bs at_ S U r1 r2 l r)) ∧ Below w.heap.size w w' := by
  have hAC := allocC
  have hAF := allocF
  have hf1 := hok.lk1.fit hg2 hS
  have hf2 := hok.lk2.fit hg2 hS
  have hfar := hok.far
  have hat1 := hok.at1
  have hat2 := hok.at2
  have hat3 := hok.at3
  rw [hl] at hat1 hat2 hat3 hfar
  have HG1 := Lib.hid (fun (W : World) (hW : Below w.heap.size w W) => reflkgetS (adv a c (num bs at_ 4)) (n - num bs at_ 4) (c - num bs at_ 4) (bs.drop (num bs at_ 4)) glyphs S a1 c1 r1 l W (by rw [← bytesV_drop]; exact (h.below hW).adv c _ (by rw [bytesV_length, hl]; exact hn)) (by rw [List.length_drop, hl]) (by omega) (h1.below hW) hg2 hS hok.lk1 hx)
  have HG2 := Lib.hid (fun (W : World) (hW : Below w.heap.size w W) => reflkgetS (adv a c (num bs (at_ + 4) 4)) (n - num bs (at_ + 4) 4) (c - num bs (at_ + 4) 4) (bs.drop (num bs (at_ + 4) 4)) glyphs S a2 c2 r2 r W (by rw [← bytesV_drop]; exact (h.below hW).adv c _ (by rw [bytesV_length, hl]; exact hn)) (by rw [List.length_drop, hl]) (by omega) (h2.below hW) hg2 hS hok.lk2 hy)
  have hxm := lk_most hf1 l
  have hym := lk_most hf2 r
  have hxl := lkR_le' hf1 l
  have hyl := lkR_le' hf2 r
  have HSG := Lib.hid (fun (k : Nat) (z : Int) (hz : z = (k : Nat)) (hk : k + S ≤ n - num bs (at_ + 8) 4) (W : World) (hW : Below w.heap.size w W) => signed22_any (adv a c (num bs (at_ + 8) 4)) (n - num bs (at_ + 8) 4) (c - num bs (at_ + 8) 4) (bs.drop (num bs (at_ + 8) 4)) S k z (S : Nat) hz rfl hS W (by rw [← bytesV_drop]; exact (h.below hW).adv c _ (by rw [bytesV_length, hl]; exact hn)) (by rw [List.length_drop, hl]) (by omega) hk)
  have HD := Lib.hid (show distG bs at_ S U r1 r2 l r = disV (bs.drop (num bs (at_ + 8) 4)) S (U * ((lkR (bs.drop (num bs at_ 4)) r1 l).1 + (lkR (bs.drop (num bs (at_ + 4) 4)) r2 r).1)) from rfl)
  obtain ⟨x, hxe⟩ : ∃ x, x = (lkR (bs.drop (num bs at_ 4)) r1 l).1 := ⟨_, rfl⟩
  obtain ⟨y, hye⟩ : ∃ y, y = (lkR (bs.drop (num bs (at_ + 4) 4)) r2 r).1 := ⟨_, rfl⟩
  rw [← hxe] at hxm hxl HG1 HD
  rw [← hye] at hym hyl HG2 HD
  have hin : U * (x + y) + S ≤ n - num bs (at_ + 8) 4 := by
    have := Nat.mul_le_mul_left U (show x + y ≤ mostR (bs.drop (num bs at_ 4)) r1 + mostR (bs.drop (num bs (at_ + 4) 4)) r2 by omega)
    omega
  obtain ⟨k, hk⟩ : ∃ k, k = U * (x + y) := ⟨_, rfl⟩
  rw [← hk] at HD hin
  have w1_ : IntKind.i64.wrap ((x : Int) + (y : Int)) = (x : Int) + (y : Int) := IntWalk.i64_in _ (by omega)
  have hke : (U : Int) * ((x : Int) + (y : Int)) = (k : Int) := by rw [hk, Int.natCast_mul, Int.natCast_add]
  have W2 := Lib.hid (show RowKit.wrap64 ((U : Int) * ((x : Int) + (y : Int))) = (k : Int) by rw [hke, ← IntWalk.i64_left, IntWalk.i64_in _ (by omega)])
  have HSK := Lib.hid (fun (W : World) (hW : Below w.heap.size w W) => HSG.out k _ rfl hin W hW)
  rw [← HD.out] at HSK
  have hkk : (kind == 0) = false := beq_eq_false_iff_ne.2 hk0
  clear h hl hok hf1 hf2 hfar hxe hye hk h1 h2 HSG HD hke hk0
  generalize num bs (at_ + 8) 4 = P3 at *
  generalize num bs (at_ + 4) 4 = P2 at *
  generalize num bs at_ 4 = P1 at *
  generalize (lkR (bs.drop P1) r1 l).2 = b1 at *
  generalize (lkR (bs.drop P2) r2 r).2 = b2 at *
  obtain ⟨W, hW⟩ : ∃ W, W = w.alloc (Obj.cells #[.int .i64 kind, .int .i64 0, .int .i64 (S : Nat), .int .i64 (U : Nat), .slice a n c, .slice (adv a c P3) (n - P3) (c - P3), .slice (adv a c P1) (n - P1) (c - P1), .slice a1 r1.length c1, .slice (adv a c P2) (n - P2) (c - P2), .slice a2 r2.length c2] 104) := ⟨_, rfl⟩
  have hbW : Below w.heap.size w W := by rw [hW]; exact balloc (brefl w) _
  have x3 : W.heap[w.heap.size]? = some (.cells #[.int .i64 kind, .int .i64 0, .int .i64 (S : Nat), .int .i64 (U : Nat), .slice a n c, .slice (adv a c P3) (n - P3) (c - P3), .slice (adv a c P1) (n - P1) (c - P1), .slice a1 r1.length c1, .slice (adv a c P2) (n - P2) (c - P2), .slice a2 r2.length c2] 104 (0, 0)) := by rw [hW]; exact (heap_push _ _ _).trans (if_pos rfl)
  have X3 := Lib.hid x3
  have q3 := fun o => cell_of_heap x3 o
  have l3 := (Array.getElem?_eq_some_iff.1 x3).1
  have HBW := Lib.hid hbW
  clear hbW x3
  have w2_ := W2.out
  go_enter Try.func56, Try.ntmps56
  go_wp2_with fail
  rw [← hW]
  clear hW
  refine (HG1.out W HBW.out).mono ?_
  rintro e w1 ⟨rfl, hb1⟩
  have Y3 := Lib.hid ((hb1.block _ l3).trans X3.out)
  have q3 := fun o => cell_of_heap Y3.out o
  have l3 := (Array.getElem?_eq_some_iff.1 Y3.out).1
  have HB1 := Lib.hid (HBW.out.trans (hb1.mono HBW.out.size))
  clear hb1
  go_wp2_with fail
  refine (HG2.out w1 HB1.out).mono ?_
  rintro e w2 ⟨rfl, hb2⟩
  have Z3 := Lib.hid ((hb2.block _ l3).trans Y3.out)
  have q3 := fun o => cell_of_heap Z3.out o
  have l3 := (Array.getElem?_eq_some_iff.1 Z3.out).1
  have HB2 := Lib.hid (HB1.out.trans (hb2.mono HB1.out.size))
  clear hb2
  go_wp2_with fail
  refine (HSK.out w2 HB2.out).mono ?_
  rintro e w_ ⟨rfl, rfl⟩
  go_wp2_with fail
  go_ret
  exact ⟨rfl, HB2.out⟩
theorem sizI_or' (bs : List UInt8) : sizI bs = 2 ∨ sizI bs = 4 := by unfold sizI; split <;> simp
theorem prefget_any (kind : Int) (a : Option Addr) (n c : Nat) (bs : List UInt8) (glyphs : Nat) (r1 r2 : List RP) (v : Array Value) (l r : Int) (w : World) (h : Has w a (bytesV bs)) (hl : bs.length = n) (hn : n ≤ c) (hc : c ≤ maxLen) (h20 : n ≤ 4000) (hok : PrOk bs kind glyphs r1 r2) (hg2 : glyphs ≤ 65535) (hv : DT bs kind r1 r2 a n c v w) (hx : -9223372036854775808 ≤ l ∧ l ≤ 9223372036854775807) (hy : -9223372036854775808 ≤ r ∧ r ≤ 9223372036854775807) :
    Calls Try.prog 56 #[.agg v, .int .i64 l, .int .i64 r] w fun e w' => e = .returned (.int .i64 (distF bs kind r1 r2 l r)) ∧ Below w.heap.size w w' := by
  rcases hok with ⟨rfl, hok, _, _⟩ | ⟨rfl, hok⟩ | ⟨rfl, hok⟩
  · rcases hv with ⟨_, rfl⟩ | ⟨_, _, _, _, _, _, _, h0, _⟩
    · exact prefgetL_any a n c bs l r w h hl (Nat.le_trans hn hc) h20 hok
    · omega
  · rcases hv with ⟨h0, _⟩ | ⟨at_, S, U, a1, c1, a2, c2, h0, rfl, h1, h2⟩
    · omega
    · obtain ⟨_, rfl, rfl, rfl⟩ : (2 : Int) = 2 ∧ at_ = 4 ∧ S = 2 ∧ U = 1 := by rcases h0 with h | h; exact h; omega
      exact prefgetG_any 2 (by decide) a n c bs 4 2 1 glyphs r1 r2 a1 a2 c1 c2 l r w h hl hn hc h20 hok hg2 (.inl rfl) (by decide) h1 h2 hx hy
  · rcases hv with ⟨h0, _⟩ | ⟨at_, S, U, a1, c1, a2, c2, h0, rfl, h1, h2⟩
    · omega
    · obtain ⟨_, rfl, rfl, rfl⟩ : (6 : Int) = 6 ∧ at_ = 8 ∧ S = sizI bs ∧ U = sizI bs := by rcases h0 with h | h; omega; exact h
      exact prefgetG_any 6 (by decide) a n c bs 8 _ _ glyphs r1 r2 a1 a2 c1 c2 l r w h hl hn hc h20 hok hg2 (sizI_or' bs) (by rcases sizI_or' bs with h | h <;> omega) h1 h2 hx hy
end Go.Proofs.Ytbicnkopmamnpaa
end
section

/- What was read of bytes stays when those bytes are written over; the program's table and the document's. Conditions: as each says. -/
namespace Go.Proofs.Ytbicnkopmamnpaa
open Go.RowKit Go.Lib

theorem encRs_not8 (rs : List RP) : ∀ u ∈ encRs rs, ∀ z, u ≠ .int .u8 z := by
  intro u hu z
  simp only [encRs, List.mem_flatMap] at hu
  obtain ⟨r, _, hr⟩ := hu
  simp only [encR, List.mem_cons, List.not_mem_nil, or_false] at hr
  rintro rfl
  simp at hr
theorem Has.not8 {w : World} {a : Option Addr} {xs : List Value} (h : Has w a xs) (hx : ∀ u ∈ xs, ∀ z, u ≠ .int .u8 z) {g i : Nat} {z : Int} (v : Value) (hc : w.cell? ⟨g, i, none⟩ = some (.int .u8 z)) : Has (w.setCell ⟨g, i, none⟩ v) a xs := by
  intro j u hu
  obtain ⟨p, hp, hcell⟩ := h j u hu
  refine ⟨p, hp, ?_⟩
  rw [World.cell?_setCell_other]
  · exact hcell
  · intro e
    rw [← e, hc] at hcell
    injection hcell with hcell
    exact hx u (List.mem_of_getElem? hu) z hcell.symm
theorem Has.farS {w : World} {b o : Nat} {xs : List Value} (h : Has w (some ⟨b, o, none⟩) xs) {g i : Nat} (hne : b ≠ g) (v : Value) : Has (w.setCell ⟨g, i, none⟩ v) (some ⟨b, o, none⟩) xs := by
  intro j u hu
  obtain ⟨p, hp, hcell⟩ := h j u hu
  refine ⟨p, hp, ?_⟩
  injection hp with hp
  subst hp
  rw [World.cell?_of_block (w := w) (by rw [add_block]; exact set_heap_other _ hne)]
  exact hcell
/-- What stands behind two Reads, while the bytes of the first are written over. -/
structure Spo (L gx g9 N g53 c53 g12 : Nat) (bs : List UInt8) (kind : Int) (r1 r2 : List RP) (v : Array Value) (w0 w : World) : Prop where
  u8 : ∃ cs, w.heap[g9]? = some (.cells cs 5 (0, 0)) ∧ ∀ i, i < N → ∃ z, cs[i]? = some (.int .u8 z)
  pr : PrIs (spR L) L gx bs kind r1 r2 w
  dt : DT bs kind r1 r2 (some ⟨g53, 0, none⟩) N c53 v w
  by8 : Has w (some ⟨g53, 0, none⟩) (bytesV bs)
  tb : w.heap[g12]? = some (.cells v 104 (0, 0))
  bl : Below w0.heap.size w0 w
theorem Spo.set {L gx g9 N g53 c53 g12 : Nat} {bs : List UInt8} {kind : Int} {r1 r2 : List RP} {v : Array Value} {w0 w : World} (h : Spo L gx g9 N g53 c53 g12 bs kind r1 r2 v w0 w) (hg : g9 < L) (h53 : g53 ≠ g9) (hw : w0.heap.size ≤ g9) {j : Nat} (hj : j < N) (z : Int) : Spo L gx g9 N g53 c53 g12 bs kind r1 r2 v w0 (w.setCell ⟨g9, j, none⟩ (.int .u8 z)) := by
  obtain ⟨cs, hcs, hall⟩ := h.u8
  obtain ⟨z0, hz0⟩ := hall j hj
  have hc : w.cell? ⟨g9, j, none⟩ = some (.int .u8 z0) := (cell_of_heap hcs j).trans hz0
  refine ⟨⟨_, set_heap_at _ hcs, fun i hi => ?_⟩, h.pr.setT hcs (by decide) (by decide) (by decide) (by decide) (by decide) (.inr hg) _, ?_, h.by8.farS h53 _, ?_, h.bl.setCell (p := ⟨g9, j, none⟩) hw _⟩
  · by_cases e : j = i
    · subst e
      exact ⟨z, by rw [Array.getElem?_setIfInBounds, if_pos rfl, if_pos (Array.getElem?_eq_some_iff.1 hz0).1]⟩
    · obtain ⟨y, hy⟩ := hall i hi
      exact ⟨y, by rw [Array.getElem?_setIfInBounds, if_neg e]; exact hy⟩
  · rcases h.dt with hd | ⟨at_, S, U, a1, c1, a2, c2, h1, h2, h3, h4⟩
    · exact .inl hd
    · exact .inr ⟨at_, S, U, a1, c1, a2, c2, h1, h2, h3.not8 (encRs_not8 _) _ hc, h4.not8 (encRs_not8 _) _ hc⟩
  · exact heap_setT h.tb hcs (by decide) _
theorem DT.shapeK {bs : List UInt8} {kind : Int} {r1 r2 : List RP} {a : Option Addr} {n c : Nat} {v : Array Value} {w : World} (h : DT bs kind r1 r2 a n c v w) :
    ∃ i0 i1 i2 i3 a4 n4 c4 a5 n5 c5 a6 n6 c6 a7 n7 c7 a8 n8 c8 a9 n9 c9, v = #[.int .i64 i0, .int .i64 i1, .int .i64 i2, .int .i64 i3, .slice a4 n4 c4, .slice a5 n5 c5, .slice a6 n6 c6, .slice a7 n7 c7, .slice a8 n8 c8, .slice a9 n9 c9] := by
  rcases h with ⟨_, rfl⟩ | ⟨_, _, _, _, _, _, _, _, rfl, _⟩
  · exact ⟨_, _, _, _, _, _, _, _, _, _, _, _, _, _, _, _, _, _, _, _, _, _, rfl⟩
  · exact ⟨_, _, _, _, _, _, _, _, _, _, _, _, _, _, _, _, _, _, _, _, _, _, rfl⟩
end Go.Proofs.Ytbicnkopmamnpaa
end
