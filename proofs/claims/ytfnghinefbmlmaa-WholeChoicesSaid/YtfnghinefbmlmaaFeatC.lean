
/- Package feat: the features of a table. Conditions: as many bytes as the slice says. -/
import Derived.Test.YtfnghinefbmlmaaFeatB
namespace Go.Proofs.Ytfnghinefbmlmaa
open Go.RowKit Go.Lib

theorem num_takeS (bs : List UInt8) (m j : Nat) : ∀ s, j + s ≤ m → num (bs.take m) j s = num bs j s
  | 0, _ => rfl
  | s + 1, h => by
    have e : (bs.take m).getD (j + s) 0 = bs.getD (j + s) 0 := by
      simp only [List.getD_eq_getElem?_getD, List.getElem?_take]
      rw [if_pos (by omega)]
    rw [num, num, num_takeS bs m j s (by omega), e]
theorem num_dropS (bs : List UInt8) (m j : Nat) : ∀ s, num (bs.drop m) j s = num bs (m + j) s
  | 0 => rfl
  | s + 1 => by
    rw [num, num, num_dropS bs m j s]
    simp only [List.getD_eq_getElem?_getD, List.getElem?_drop, Nat.add_assoc]
def fTy (bs : List UInt8) (i : Nat) : Nat := num bs (12 + 12 * i) 2
def fMany (bs : List UInt8) (i : Nat) : Nat := num bs (14 + 12 * i) 2
def fFrom (bs : List UInt8) (i : Nat) : Nat := num bs (16 + 12 * i) 4
def fFl (bs : List UInt8) (i : Nat) : Nat := num bs (20 + 12 * i) 2
def fSb (bs : List UInt8) (i : Nat) : List UInt8 := (bs.drop (fFrom bs i)).take (4 * fMany bs i)
def setsOk (bs : List UInt8) (i : Nat) : Prop := fFrom bs i ≤ bs.length ∧ 4 * fMany bs i ≤ bs.length - fFrom bs i
structure FtOk (bs : List UInt8) : Prop where
  len : 12 ≤ bs.length
  ver : num bs 0 4 = 65536
  rows : num bs 4 2 * 12 ≤ bs.length - 12
  rise : ∀ i, i + 1 < num bs 4 2 → fTy bs i < fTy bs (i + 1)
  sets : ∀ i, i < num bs 4 2 → setsOk bs i
def rowB (bs : List UInt8) (P j : Nat) : List UInt8 := (((bs.drop 12).take P).drop (j * 12)).take 12
theorem rowB_num (bs : List UInt8) (P j k s : Nat) (h : k + s ≤ 12) (hP : j * 12 + 12 ≤ P) : num (rowB bs P j) k s = num bs (12 + (j * 12 + k)) s := by
  unfold rowB
  rw [num_takeS _ _ _ _ h, num_dropS, num_takeS _ _ _ _ (by omega), num_dropS]
theorem rowB_ty (bs : List UInt8) (P j : Nat) (hP : j * 12 + 12 ≤ P) : num (rowB bs P j) 0 2 = fTy bs j := by rw [rowB_num _ _ _ _ _ (by omega) hP, fTy]; congr 1; omega
theorem rowB_many (bs : List UInt8) (P j : Nat) (hP : j * 12 + 12 ≤ P) : num (rowB bs P j) 2 2 = fMany bs j := by rw [rowB_num _ _ _ _ _ (by omega) hP, fMany]; congr 1; omega
theorem rowB_from (bs : List UInt8) (P j : Nat) (hP : j * 12 + 12 ≤ P) : num (rowB bs P j) 4 4 = fFrom bs j := by rw [rowB_num _ _ _ _ _ (by omega) hP, fFrom]; congr 1; omega
theorem rowB_fl (bs : List UInt8) (P j : Nat) (hP : j * 12 + 12 ≤ P) : num (rowB bs P j) 8 2 = fFl bs j := by rw [rowB_num _ _ _ _ _ (by omega) hP, fFl]; congr 1; omega
def vwV (bs : List UInt8) (a : Option Addr) (c k : Nat) : List Value := (List.range k).map fun i => .slice (adv a c (fFrom bs i)) (4 * fMany bs i) (c - fFrom bs i)
def zeroV (m : Nat) : List Value := List.replicate m (.slice none 0 0)
theorem made_view (n : Nat) : (madeCells (Value.agg #[Value.slice none 0 0]).cells (n * 1)).toList = zeroV n := by
  apply List.ext_getElem?
  intro j
  simp only [madeCells, Value.cells, zeroV]
  by_cases h : j < n
  · simp [h, Nat.mod_one]
  · simp [h]
def vwP (bs : List UInt8) (a : Option Addr) (c N j : Nat) : List Value := vwV bs a c j ++ zeroV (N - j)
theorem vwP_set (bs : List UInt8) (a : Option Addr) (c N j : Nat) (h : j < N) : (vwP bs a c N j).set j (.slice (adv a c (fFrom bs j)) (4 * fMany bs j) (c - fFrom bs j)) = vwP bs a c N (j + 1) := by
  obtain ⟨k, hk⟩ : ∃ k, N - j = k + 1 := ⟨N - j - 1, by omega⟩
  unfold vwP
  rw [hk, List.set_append_right _ _ (by simp [vwV]), show N - (j + 1) = k by omega]
  simp [vwV, List.range_succ, zeroV, List.replicate_succ]
theorem vwP_all (bs : List UInt8) (a : Option Addr) (c N : Nat) : vwP bs a c N N = vwV bs a c N := by simp [vwP, zeroV]
theorem vwP_zero (bs : List UInt8) (a : Option Addr) (c N : Nat) : vwP bs a c N 0 = zeroV N := by simp [vwP, vwV]
theorem vwV_get (bs : List UInt8) (a : Option Addr) (c N j : Nat) (h : j < N) : (vwV bs a c N)[j]? = some (.slice (adv a c (fFrom bs j)) (4 * fMany bs j) (c - fFrom bs j)) := by simp [vwV, List.getElem?_map, List.getElem?_range h]
theorem info_view : (Try.prog.info? 71).map (fun i => (i.zero, i.size, i.bytes)) = some (some (.agg #[.slice none 0 0]), 1, 24) := by kernel_rfl
theorem info_feat : (Try.prog.info? 36).map (fun i => (i.zero, i.size, i.bytes)) = some (some (.agg #[.int .i64 0, .bool false, .int .i64 0, .slice none 0 0]), 4, 48) := by kernel_rfl
/-- Features as cells; hs: where the settings of each stand. -/
def ftC (bs : List UInt8) (i h : Nat) : List Value := [.int .i64 (fTy bs i : Nat), .bool (bt (fFl bs i) 15), .int .i64 (dfF (fSb bs i) (fMany bs i) (fFl bs i)), .slice (some ⟨h, 0, none⟩) (fMany bs i) (fMany bs i)]
def ftV (bs : List UInt8) : Nat → List Nat → List Value
  | _, [] => []
  | i, h :: hs => ftC bs i h ++ ftV bs (i + 1) hs
theorem ftV_length (bs : List UInt8) : ∀ (hs : List Nat) (i : Nat), (ftV bs i hs).length = hs.length * 4
  | [], _ => rfl
  | h :: hs, i => by rw [ftV, List.length_append, ftV_length bs hs, List.length_cons]; simp [ftC]; omega
theorem ftV_snoc (bs : List UInt8) (h : Nat) : ∀ (hs : List Nat) (i : Nat), ftV bs i (hs ++ [h]) = ftV bs i hs ++ ftC bs (i + hs.length) h
  | [], i => by simp [ftV]
  | x :: hs, i => by rw [List.cons_append, ftV, ftV_snoc bs h hs, ftV, List.append_assoc, List.length_cons]; congr 3; omega
theorem ftV_get (bs : List UInt8) : ∀ (hs : List Nat) (i j h : Nat), hs[j]? = some h → ∀ o, o < 4 → (ftV bs i hs)[j * 4 + o]? = (ftC bs (i + j) h)[o]?
  | [], _, _, _, hh, _, _ => by simp at hh
  | x :: hs, i, 0, h, hh, o, ho => by
    simp at hh; subst hh
    rw [ftV, Nat.zero_mul, Nat.zero_add, List.getElem?_append_left (by simpa [ftC] using ho)]; rfl
  | x :: hs, i, j + 1, h, hh, o, ho => by
    have := ftV_get bs hs (i + 1) j h (by simpa using hh) o ho
    rw [ftV, List.getElem?_append_right (by simp [ftC]; omega), show (j + 1) * 4 + o - (ftC bs i x).length = j * 4 + o by simp [ftC]; omega, this, show i + 1 + j = i + (j + 1) by omega]
def zeroF : Nat → List Value
  | 0 => []
  | n + 1 => .int .i64 0 :: .bool false :: .int .i64 0 :: .slice none 0 0 :: zeroF n
theorem zeroF_length : ∀ n, (zeroF n).length = n * 4
  | 0 => rfl
  | n + 1 => by simp only [zeroF, List.length_cons, zeroF_length n]; omega
theorem zeroF_get : ∀ (n j : Nat), j < n * 4 → (zeroF n)[j]? = some ((#[Value.int .i64 0, .bool false, .int .i64 0, .slice none 0 0] : Array Value)[j % 4]!)
  | 0, j, h => by omega
  | n + 1, 0, _ => rfl
  | n + 1, 1, _ => rfl
  | n + 1, 2, _ => rfl
  | n + 1, 3, _ => rfl
  | n + 1, j + 4, h => by
    show (zeroF n)[j]? = _
    rw [zeroF_get n j (by omega), show (j + 4) % 4 = j % 4 by omega]
theorem made_feat (n : Nat) : (madeCells (Value.agg #[.int .i64 0, .bool false, .int .i64 0, .slice none 0 0]).cells (n * 4)).toList = zeroF n := by
  apply List.ext_getElem?
  intro j
  by_cases h : j < n * 4
  · rw [zeroF_get n j h]
    simp only [madeCells, Value.cells]
    simp [h]
  · rw [List.getElem?_eq_none (by simp [madeCells]; omega), List.getElem?_eq_none (by rw [zeroF_length]; omega)]
theorem set4_list (z0 z1 z2 z3 v0 v1 v2 v3 : Value) (r : List Value) : ∀ (l : List Value) (n : Nat), l.length = n → ((((l ++ z0 :: z1 :: z2 :: z3 :: r).set n v0).set (n + 1) v1).set (n + 2) v2).set (n + 3) v3 = l ++ v0 :: v1 :: v2 :: v3 :: r
  | [], n, h => by cases h; rfl
  | x :: l, n, h => by
    subst h
    simp only [List.cons_append, List.length_cons, List.set_cons_succ]
    exact congrArg (x :: ·) (set4_list z0 z1 z2 z3 v0 v1 v2 v3 r l _ rfl)
theorem keptE_store {w : World} {base e size g cap n : Nat} {xs : List Value} (h : w.ownsRow base e size (.slice (some ⟨g, 0, none⟩) n cap) n xs) (j : Nat) (u : Value) : KeptE e w (w.setCell ⟨g, j, none⟩ u) := KeptE.grown h (h.stored j u).2
structure FtIs (B : Nat) (bs : List UInt8) (hs : List Nat) (w : World) : Prop where
  each : ∀ i h, hs[i]? = some h → w.ownsRow B 3 1 (.slice (some ⟨h, 0, none⟩) (fMany bs i) (fMany bs i)) (fMany bs i) (setV (fSb bs i) (fMany bs i))
theorem FtIs.below {B : Nat} {bs : List UInt8} {hs : List Nat} {w w' : World} (h : FtIs B bs hs w) (hb : Below w.heap.size w w') : FtIs B bs hs w' := ⟨fun i x hx => owns_below (h.each i x hx) hb (Nat.le_refl _)⟩
theorem FtIs.keptE {B : Nat} {bs : List UInt8} {hs : List Nat} {w w' : World} (h : FtIs B bs hs w) (hb : KeptE 36 w w') : FtIs B bs hs w' := ⟨fun i x hx => hb.owns (h.each i x hx) (by decide)⟩
theorem FtIs.snoc {B : Nat} {bs : List UInt8} {hs : List Nat} {w : World} (h : FtIs B bs hs w) {x : Nat} (hx : w.ownsRow B 3 1 (.slice (some ⟨x, 0, none⟩) (fMany bs hs.length) (fMany bs hs.length)) (fMany bs hs.length) (setV (fSb bs hs.length) (fMany bs hs.length))) : FtIs B bs (hs ++ [x]) w := ⟨fun i y hy => by
  rcases Nat.lt_trichotomy i hs.length with hl | hl | hl
  · rw [List.getElem?_append_left hl] at hy; exact h.each i y hy
  · subst hl
    rw [List.getElem?_append_right (Nat.le_refl _), Nat.sub_self] at hy
    simp at hy; subst hy; exact hx
  · rw [List.getElem?_eq_none (by simp; omega)] at hy; cases hy⟩
def FTakeIs (bs : List UInt8) (w : World) (e : Ending) (w' : World) : Prop :=
  ((∃ g hs, FtOk bs ∧ hs.length = num bs 4 2 ∧ e = .returned (.slice (some ⟨g, 0, none⟩) (num bs 4 2) (num bs 4 2)) ∧ w'.ownsRow w.heap.size 36 4 (.slice (some ⟨g, 0, none⟩) (num bs 4 2) (num bs 4 2)) (num bs 4 2) (ftV bs 0 hs) ∧ FtIs w.heap.size bs hs w') ∨
   (¬ FtOk bs ∧ e = .panicked thrown)) ∧ Below w.heap.size w w'
def lastF (bs : List UInt8) (j : Nat) : Int := if j = 0 then -1 else (fTy bs (j - 1) : Nat)
def TRel1 (w0 V : World) (gS N : Nat) (a : Option Addr) (c : Nat) (bs : List UInt8) (last i : Value) (wr : World) : Prop :=
  ∃ j, j ≤ N ∧ i = .int .i64 (j : Nat) ∧ last = .int .i64 (lastF bs j) ∧ wr.ownsRow w0.heap.size 71 1 (.slice (some ⟨gS, 0, none⟩) N N) N (vwP bs a c N j) ∧ (∀ i, i + 1 < j → fTy bs i < fTy bs (i + 1)) ∧ (∀ i, i < j → setsOk bs i) ∧ Same V [gS] wr ∧ Below w0.heap.size w0 wr
def TRel2 (w0 V : World) (gO N : Nat) (bs : List UInt8) (i : Value) (wr : World) : Prop :=
  ∃ hs, hs.length ≤ N ∧ i = .int .i64 (hs.length : Nat) ∧ wr.ownsRow w0.heap.size 36 4 (.slice (some ⟨gO, 0, none⟩) N N) N (ftV bs 0 hs ++ zeroF (N - hs.length)) ∧ FtIs w0.heap.size bs hs wr ∧ Below w0.heap.size w0 wr ∧ KeptE 36 V wr
set_option maxRecDepth 100000 in
set_option maxHeartbeats 1600000 in
theorem ftake_short (a : Option Addr) (n c : Nat) (bs : List UInt8) (w : World) (h : Has w a (bytesV bs)) (hl : bs.length = n) (hn : n ≤ c) (hc : c ≤ maxLen) (hbad : ¬ (12 ≤ n ∧ num bs 0 4 = 65536 ∧ num bs 4 2 * 12 ≤ n - 12)) :
    Calls Try.prog 29 #[.agg #[.slice a n c]] w (FTakeIs bs w) := by
  have HNO := Lib.hid (show ¬ FtOk bs from fun ho => hbad ⟨hl ▸ ho.len, ho.ver, by have := ho.rows; rwa [hl] at this⟩)
  by_cases h4 : 4 ≤ n
  case neg =>
    have HU := Lib.hid (fun W => u32_bad a n c 0 W (by omega) hn hc)
    clear h hl hbad
    go_enter Try.func29, Try.ntmps29
    go_wp2_with (first | (go_at_call 45; (with_reducible refine (HU.out _).mono ?_); rintro e w1 ⟨rfl, hb1⟩; have h1c := bc hb1; have h1f := bf hb1; have h1z := hb1.size; try simp only [World.size_alloc, World.size_drew] at h1z))
    exact ⟨rfl, .inr ⟨HNO.out, rfl⟩, blw⟩
  have HU := Lib.hid (fun W (hW : Below w.heap.size w W) => u32_z a n c 0 0 rfl bs W (h.below hW) hl (by omega) hn hc)
  by_cases hv : num bs 0 4 = 65536
  case neg =>
    have d : (((num bs 0 4 : Nat) : Int) == 65536) = false := by simp; omega
    generalize num bs 0 4 = v at *
    clear h hl hbad hv
    go_enter Try.func29, Try.ntmps29
    go_wp2_with (first | (go_at_call 45; (with_reducible refine (HU.out _ (by exact blw)).mono ?_); rintro e w1 ⟨rfl, hb1⟩; have h1c := bc hb1; have h1f := bf hb1; have h1z := hb1.size; try simp only [World.size_alloc, World.size_drew] at h1z) | (go_at_call 44; refine (need_f _ (by first | rfl | assumption) _).mono ?_; rintro e w_ ⟨rfl, rfl⟩))
    exact ⟨rfl, .inr ⟨HNO.out, rfl⟩, blw⟩
  rw [hv] at HU
  by_cases h6 : 6 ≤ n
  case neg =>
    have HU2 := Lib.hid (fun W => u16_bad a n c 4 W (by omega) hn hc)
    clear h hl hbad hv
    go_enter Try.func29, Try.ntmps29
    go_wp2_with (first | (go_at_call 45; (with_reducible refine (HU.out _ (by exact blw)).mono ?_); rintro e w1 ⟨rfl, hb1⟩; have h1c := bc hb1; have h1f := bf hb1; have h1z := hb1.size; try simp only [World.size_alloc, World.size_drew] at h1z) | (go_at_call 44; refine (need_t _ (by first | rfl | assumption) _).mono ?_; rintro e w_ ⟨rfl, rfl⟩) | (go_at_call 46; (with_reducible refine (HU2.out _).mono ?_); rintro e w2 ⟨rfl, hb2⟩; have h2c := bc hb2; have h2f := bf hb2; have h2z := hb2.size; try simp only [World.size_alloc, World.size_drew] at h2z))
    exact ⟨rfl, .inr ⟨HNO.out, rfl⟩, blw⟩
  have HU2 := Lib.hid (fun W (hW : Below w.heap.size w W) => u16_z a n c 4 4 rfl bs W (h.below hW) hl (by omega) hn hc)
  have hN := num2_lt bs 4
  have HR := Lib.hid (fun W => rows_zb a n c 12 (num bs 4 2) 12 12 ((num bs 4 2 : Nat) : Int) 12 rfl rfl rfl W hN (by omega) (by omega) (fun hx => hbad ⟨hx.1, hv, by omega⟩) hn hc)
  generalize num bs 4 2 = N at *
  clear h hl hbad hv
  go_enter Try.func29, Try.ntmps29
  go_wp2_with (first | (go_at_call 45; (with_reducible refine (HU.out _ (by exact blw)).mono ?_); rintro e w1 ⟨rfl, hb1⟩; have h1c := bc hb1; have h1f := bf hb1; have h1z := hb1.size; try simp only [World.size_alloc, World.size_drew] at h1z) | (go_at_call 44; refine (need_t _ (by first | rfl | assumption) _).mono ?_; rintro e w_ ⟨rfl, rfl⟩) | (go_at_call 46; (with_reducible refine (HU2.out _ (by exact blw)).mono ?_); rintro e w2 ⟨rfl, hb2⟩; have h2c := bc hb2; have h2f := bf hb2; have h2z := hb2.size; try simp only [World.size_alloc, World.size_drew] at h2z) | (go_at_call 47; (with_reducible refine (HR.out _).mono ?_); rintro e w3 ⟨rfl, hb3⟩; have h3c := bc hb3; have h3f := bf hb3; have h3z := hb3.size; try simp only [World.size_alloc, World.size_drew] at h3z))
  exact ⟨rfl, .inr ⟨HNO.out, rfl⟩, blw⟩
end Go.Proofs.Ytfnghinefbmlmaa
