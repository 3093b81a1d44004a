/- Contracts of the law's 'got': a number of a kind at a place, or that it was thrown. Conditions: the slice's, and that the kind is one of five. -/
import Derived.Test.YtfgkmgabldjpaaaRef1
import Derived.Test.YtfgkmgabldjpaaaOwn
import Derived.Test.YtfgkmgabldjpaaaTry
namespace Go.Proofs.Ytfgkmgabldjpaaa
open Go.RowKit

/-- How a function that is tried leaves a number's cell. -/
def CellR (W : World) (p : Addr) (v : Value) (ok : Bool) (w' : World) : Prop :=
  (ok = true ∧ ∃ W1, Below W.heap.size W W1 ∧ w' = W1.setCell p v) ∨ (ok = false ∧ Below W.heap.size W w')
def kindSize (kind : Nat) : Nat := match kind with | 0 => 1 | 1 => 2 | 2 => 4 | 3 => 2 | _ => 4
def kindNum (bs : List UInt8) (kind k : Nat) : Int := match kind with | 0 => num bs k 1 | 1 => num bs k 2 | 2 => num bs k 4 | 3 => s16 (num bs k 2) | _ => s32 (num bs k 4)

set_option maxRecDepth 100000 in
set_option maxHeartbeats 800000 in
theorem got1_0 (a : Option Addr) (n c : Nat) (bs : List UInt8) (k : Int) (g0 g1 g2 g3 : Nat) (x : Value) (w : World) (h : Has w a (bytesV bs)) (hl : bs.length = n) (hn : n ≤ c) (hc : c ≤ maxLen)
    (c0 : w.cell? ⟨g0, 0, none⟩ = some (.int .i64 0)) (c1 : w.cell? ⟨g1, 0, none⟩ = some (.slice a n c)) (c2 : w.cell? ⟨g2, 0, none⟩ = some (.int .i64 k)) (c3 : w.cell? ⟨g3, 0, none⟩ = some x) (f3 : w.frozen? ⟨g3, 0, none⟩ = false) :
    Calls Try.prog 34 #[.pointer (some ⟨g0, 0, none⟩), .pointer (some ⟨g1, 0, none⟩), .pointer (some ⟨g2, 0, none⟩), .pointer (some ⟨g3, 0, none⟩)] w fun e w' =>
      (e = .returned (.tuple #[]) ∧ (0 ≤ k ∧ k + 1 ≤ n) ∧ CellR w ⟨g3, 0, none⟩ (.int .i64 ((num bs k.toNat 1 : Nat))) true w') ∨ (e = .panicked thrown ∧ ¬ (0 ≤ k ∧ k + 1 ≤ n) ∧ CellR w ⟨g3, 0, none⟩ (.int .i64 ((num bs k.toNat 1 : Nat))) false w') := by
  have HH := Lib.hid h
  have HL := Lib.hid hl
  have lt3 : g3 < w.heap.size := cell_lt c3
  clear h hl
  by_cases hk : 0 ≤ k ∧ k + 1 ≤ n
  · obtain ⟨j, rfl⟩ : ∃ j : Nat, k = j := ⟨k.toNat, by omega⟩
    have hj : j + 1 ≤ n := by omega
    have HK := Lib.hid hk
    clear hk
    rw [Int.toNat_natCast]
    have HX := Lib.hid (fun W h => u8_ok a n c j bs W h HL.out hj hn hc)
    generalize hv : ((num bs j 1 : Nat) : Int) = v at *
    clear hv
    go_enter Try.func34, Try.ntmps34
    go_wp2_with (first | (go_at_call 27; refine (HX.out _ HH.out).mono ?_; rintro e w1 ⟨rfl, hb1⟩; have h1c := bc hb1; have h1f := bf hb1; have h1z := hb1.size; try simp only [World.size_alloc] at h1z))
    go_end0
    exact .inl ⟨rfl, HK.out, .inl ⟨rfl, w1, hb1, rfl⟩⟩
  · have HK := Lib.hid hk
    clear hk
    go_enter Try.func34, Try.ntmps34
    go_wp2_with (first | (go_at_call 27; refine (u8_bad _ _ _ _ _ HK.out hn hc).mono ?_; rintro e w1 ⟨rfl, hb1⟩; have h1c := bc hb1; have h1f := bf hb1; have h1z := hb1.size; try simp only [World.size_alloc] at h1z))
    exact ⟨rfl, .inr ⟨rfl, HK.out, .inr ⟨rfl, hb1⟩⟩⟩

set_option maxRecDepth 100000 in
set_option maxHeartbeats 800000 in
theorem got1_1 (a : Option Addr) (n c : Nat) (bs : List UInt8) (k : Int) (g0 g1 g2 g3 : Nat) (x : Value) (w : World) (h : Has w a (bytesV bs)) (hl : bs.length = n) (hn : n ≤ c) (hc : c ≤ maxLen)
    (c0 : w.cell? ⟨g0, 0, none⟩ = some (.int .i64 1)) (c1 : w.cell? ⟨g1, 0, none⟩ = some (.slice a n c)) (c2 : w.cell? ⟨g2, 0, none⟩ = some (.int .i64 k)) (c3 : w.cell? ⟨g3, 0, none⟩ = some x) (f3 : w.frozen? ⟨g3, 0, none⟩ = false) :
    Calls Try.prog 34 #[.pointer (some ⟨g0, 0, none⟩), .pointer (some ⟨g1, 0, none⟩), .pointer (some ⟨g2, 0, none⟩), .pointer (some ⟨g3, 0, none⟩)] w fun e w' =>
      (e = .returned (.tuple #[]) ∧ (0 ≤ k ∧ k + 2 ≤ n) ∧ CellR w ⟨g3, 0, none⟩ (.int .i64 ((num bs k.toNat 2 : Nat))) true w') ∨ (e = .panicked thrown ∧ ¬ (0 ≤ k ∧ k + 2 ≤ n) ∧ CellR w ⟨g3, 0, none⟩ (.int .i64 ((num bs k.toNat 2 : Nat))) false w') := by
  have HH := Lib.hid h
  have HL := Lib.hid hl
  have lt3 : g3 < w.heap.size := cell_lt c3
  clear h hl
  by_cases hk : 0 ≤ k ∧ k + 2 ≤ n
  · obtain ⟨j, rfl⟩ : ∃ j : Nat, k = j := ⟨k.toNat, by omega⟩
    have hj : j + 2 ≤ n := by omega
    have HK := Lib.hid hk
    clear hk
    rw [Int.toNat_natCast]
    have HX := Lib.hid (fun W h => u16_ok a n c j bs W h HL.out hj hn hc)
    generalize hv : ((num bs j 2 : Nat) : Int) = v at *
    clear hv
    go_enter Try.func34, Try.ntmps34
    go_wp2_with (first | (go_at_call 26; refine (HX.out _ HH.out).mono ?_; rintro e w1 ⟨rfl, hb1⟩; have h1c := bc hb1; have h1f := bf hb1; have h1z := hb1.size; try simp only [World.size_alloc] at h1z))
    go_end0
    exact .inl ⟨rfl, HK.out, .inl ⟨rfl, w1, hb1, rfl⟩⟩
  · have HK := Lib.hid hk
    clear hk
    go_enter Try.func34, Try.ntmps34
    go_wp2_with (first | (go_at_call 26; refine (u16_bad _ _ _ _ _ HK.out hn hc).mono ?_; rintro e w1 ⟨rfl, hb1⟩; have h1c := bc hb1; have h1f := bf hb1; have h1z := hb1.size; try simp only [World.size_alloc] at h1z))
    exact ⟨rfl, .inr ⟨rfl, HK.out, .inr ⟨rfl, hb1⟩⟩⟩

set_option maxRecDepth 100000 in
set_option maxHeartbeats 800000 in
theorem got1_2 (a : Option Addr) (n c : Nat) (bs : List UInt8) (k : Int) (g0 g1 g2 g3 : Nat) (x : Value) (w : World) (h : Has w a (bytesV bs)) (hl : bs.length = n) (hn : n ≤ c) (hc : c ≤ maxLen)
    (c0 : w.cell? ⟨g0, 0, none⟩ = some (.int .i64 2)) (c1 : w.cell? ⟨g1, 0, none⟩ = some (.slice a n c)) (c2 : w.cell? ⟨g2, 0, none⟩ = some (.int .i64 k)) (c3 : w.cell? ⟨g3, 0, none⟩ = some x) (f3 : w.frozen? ⟨g3, 0, none⟩ = false) :
    Calls Try.prog 34 #[.pointer (some ⟨g0, 0, none⟩), .pointer (some ⟨g1, 0, none⟩), .pointer (some ⟨g2, 0, none⟩), .pointer (some ⟨g3, 0, none⟩)] w fun e w' =>
      (e = .returned (.tuple #[]) ∧ (0 ≤ k ∧ k + 4 ≤ n) ∧ CellR w ⟨g3, 0, none⟩ (.int .i64 ((num bs k.toNat 4 : Nat))) true w') ∨ (e = .panicked thrown ∧ ¬ (0 ≤ k ∧ k + 4 ≤ n) ∧ CellR w ⟨g3, 0, none⟩ (.int .i64 ((num bs k.toNat 4 : Nat))) false w') := by
  have HH := Lib.hid h
  have HL := Lib.hid hl
  have lt3 : g3 < w.heap.size := cell_lt c3
  clear h hl
  by_cases hk : 0 ≤ k ∧ k + 4 ≤ n
  · obtain ⟨j, rfl⟩ : ∃ j : Nat, k = j := ⟨k.toNat, by omega⟩
    have hj : j + 4 ≤ n := by omega
    have HK := Lib.hid hk
    clear hk
    rw [Int.toNat_natCast]
    have HX := Lib.hid (fun W h => u32_ok a n c j bs W h HL.out hj hn hc)
    generalize hv : ((num bs j 4 : Nat) : Int) = v at *
    clear hv
    go_enter Try.func34, Try.ntmps34
    go_wp2_with (first | (go_at_call 25; refine (HX.out _ HH.out).mono ?_; rintro e w1 ⟨rfl, hb1⟩; have h1c := bc hb1; have h1f := bf hb1; have h1z := hb1.size; try simp only [World.size_alloc] at h1z))
    go_end0
    exact .inl ⟨rfl, HK.out, .inl ⟨rfl, w1, hb1, rfl⟩⟩
  · have HK := Lib.hid hk
    clear hk
    go_enter Try.func34, Try.ntmps34
    go_wp2_with (first | (go_at_call 25; refine (u32_bad _ _ _ _ _ HK.out hn hc).mono ?_; rintro e w1 ⟨rfl, hb1⟩; have h1c := bc hb1; have h1f := bf hb1; have h1z := hb1.size; try simp only [World.size_alloc] at h1z))
    exact ⟨rfl, .inr ⟨rfl, HK.out, .inr ⟨rfl, hb1⟩⟩⟩

set_option maxRecDepth 100000 in
set_option maxHeartbeats 800000 in
theorem got1_3 (a : Option Addr) (n c : Nat) (bs : List UInt8) (k : Int) (g0 g1 g2 g3 : Nat) (x : Value) (w : World) (h : Has w a (bytesV bs)) (hl : bs.length = n) (hn : n ≤ c) (hc : c ≤ maxLen)
    (c0 : w.cell? ⟨g0, 0, none⟩ = some (.int .i64 3)) (c1 : w.cell? ⟨g1, 0, none⟩ = some (.slice a n c)) (c2 : w.cell? ⟨g2, 0, none⟩ = some (.int .i64 k)) (c3 : w.cell? ⟨g3, 0, none⟩ = some x) (f3 : w.frozen? ⟨g3, 0, none⟩ = false) :
    Calls Try.prog 34 #[.pointer (some ⟨g0, 0, none⟩), .pointer (some ⟨g1, 0, none⟩), .pointer (some ⟨g2, 0, none⟩), .pointer (some ⟨g3, 0, none⟩)] w fun e w' =>
      (e = .returned (.tuple #[]) ∧ (0 ≤ k ∧ k + 2 ≤ n) ∧ CellR w ⟨g3, 0, none⟩ (.int .i64 (s16 (num bs k.toNat 2))) true w') ∨ (e = .panicked thrown ∧ ¬ (0 ≤ k ∧ k + 2 ≤ n) ∧ CellR w ⟨g3, 0, none⟩ (.int .i64 (s16 (num bs k.toNat 2))) false w') := by
  have HH := Lib.hid h
  have HL := Lib.hid hl
  have lt3 : g3 < w.heap.size := cell_lt c3
  clear h hl
  by_cases hk : 0 ≤ k ∧ k + 2 ≤ n
  · obtain ⟨j, rfl⟩ : ∃ j : Nat, k = j := ⟨k.toNat, by omega⟩
    have hj : j + 2 ≤ n := by omega
    have HK := Lib.hid hk
    clear hk
    rw [Int.toNat_natCast]
    have HX := Lib.hid (fun W h => i16_ok a n c j bs W h HL.out hj hn hc)
    generalize hv : (s16 (num bs j 2) : Int) = v at *
    clear hv
    go_enter Try.func34, Try.ntmps34
    go_wp2_with (first | (go_at_call 29; refine (HX.out _ HH.out).mono ?_; rintro e w1 ⟨rfl, hb1⟩; have h1c := bc hb1; have h1f := bf hb1; have h1z := hb1.size; try simp only [World.size_alloc] at h1z))
    go_end0
    exact .inl ⟨rfl, HK.out, .inl ⟨rfl, w1, hb1, rfl⟩⟩
  · have HK := Lib.hid hk
    clear hk
    go_enter Try.func34, Try.ntmps34
    go_wp2_with (first | (go_at_call 29; refine (i16_bad _ _ _ _ _ HK.out hn hc).mono ?_; rintro e w1 ⟨rfl, hb1⟩; have h1c := bc hb1; have h1f := bf hb1; have h1z := hb1.size; try simp only [World.size_alloc] at h1z))
    exact ⟨rfl, .inr ⟨rfl, HK.out, .inr ⟨rfl, hb1⟩⟩⟩

set_option maxRecDepth 100000 in
set_option maxHeartbeats 800000 in
theorem got1_4 (a : Option Addr) (n c : Nat) (bs : List UInt8) (k : Int) (g0 g1 g2 g3 : Nat) (x : Value) (w : World) (h : Has w a (bytesV bs)) (hl : bs.length = n) (hn : n ≤ c) (hc : c ≤ maxLen)
    (c0 : w.cell? ⟨g0, 0, none⟩ = some (.int .i64 4)) (c1 : w.cell? ⟨g1, 0, none⟩ = some (.slice a n c)) (c2 : w.cell? ⟨g2, 0, none⟩ = some (.int .i64 k)) (c3 : w.cell? ⟨g3, 0, none⟩ = some x) (f3 : w.frozen? ⟨g3, 0, none⟩ = false) :
    Calls Try.prog 34 #[.pointer (some ⟨g0, 0, none⟩), .pointer (some ⟨g1, 0, none⟩), .pointer (some ⟨g2, 0, none⟩), .pointer (some ⟨g3, 0, none⟩)] w fun e w' =>
      (e = .returned (.tuple #[]) ∧ (0 ≤ k ∧ k + 4 ≤ n) ∧ CellR w ⟨g3, 0, none⟩ (.int .i64 (s32 (num bs k.toNat 4))) true w') ∨ (e = .panicked thrown ∧ ¬ (0 ≤ k ∧ k + 4 ≤ n) ∧ CellR w ⟨g3, 0, none⟩ (.int .i64 (s32 (num bs k.toNat 4))) false w') := by
  have HH := Lib.hid h
  have HL := Lib.hid hl
  have lt3 : g3 < w.heap.size := cell_lt c3
  clear h hl
  by_cases hk : 0 ≤ k ∧ k + 4 ≤ n
  · obtain ⟨j, rfl⟩ : ∃ j : Nat, k = j := ⟨k.toNat, by omega⟩
    have hj : j + 4 ≤ n := by omega
    have HK := Lib.hid hk
    clear hk
    rw [Int.toNat_natCast]
    have HX := Lib.hid (fun W h => i32_ok a n c j bs W h HL.out hj hn hc)
    generalize hv : (s32 (num bs j 4) : Int) = v at *
    clear hv
    go_enter Try.func34, Try.ntmps34
    go_wp2_with (first | (go_at_call 28; refine (HX.out _ HH.out).mono ?_; rintro e w1 ⟨rfl, hb1⟩; have h1c := bc hb1; have h1f := bf hb1; have h1z := hb1.size; try simp only [World.size_alloc] at h1z))
    go_end0
    exact .inl ⟨rfl, HK.out, .inl ⟨rfl, w1, hb1, rfl⟩⟩
  · have HK := Lib.hid hk
    clear hk
    go_enter Try.func34, Try.ntmps34
    go_wp2_with (first | (go_at_call 28; refine (i32_bad _ _ _ _ _ HK.out hn hc).mono ?_; rintro e w1 ⟨rfl, hb1⟩; have h1c := bc hb1; have h1f := bf hb1; have h1z := hb1.size; try simp only [World.size_alloc] at h1z))
    exact ⟨rfl, .inr ⟨rfl, HK.out, .inr ⟨rfl, hb1⟩⟩⟩

set_option maxRecDepth 100000 in
theorem got1_any (a : Option Addr) (n c kind : Nat) (bs : List UInt8) (k : Int) (g0 g1 g2 g3 : Nat) (x : Value) (w : World) (hkd : kind ≤ 4) (h : Has w a (bytesV bs)) (hl : bs.length = n) (hn : n ≤ c) (hc : c ≤ maxLen)
    (c0 : w.cell? ⟨g0, 0, none⟩ = some (.int .i64 kind)) (c1 : w.cell? ⟨g1, 0, none⟩ = some (.slice a n c)) (c2 : w.cell? ⟨g2, 0, none⟩ = some (.int .i64 k)) (c3 : w.cell? ⟨g3, 0, none⟩ = some x) (f3 : w.frozen? ⟨g3, 0, none⟩ = false) :
    Calls Try.prog 34 #[.pointer (some ⟨g0, 0, none⟩), .pointer (some ⟨g1, 0, none⟩), .pointer (some ⟨g2, 0, none⟩), .pointer (some ⟨g3, 0, none⟩)] w fun e w' =>
      (e = .returned (.tuple #[]) ∧ (0 ≤ k ∧ k + kindSize kind ≤ n) ∧ CellR w ⟨g3, 0, none⟩ (.int .i64 (kindNum bs kind k.toNat)) true w') ∨ (e = .panicked thrown ∧ ¬ (0 ≤ k ∧ k + kindSize kind ≤ n) ∧ CellR w ⟨g3, 0, none⟩ (.int .i64 (kindNum bs kind k.toNat)) false w') := by
  match kind, hkd, c0 with
  | 0, _, c0 => exact got1_0 a n c bs k g0 g1 g2 g3 x w h hl hn hc c0 c1 c2 c3 f3
  | 1, _, c0 => exact got1_1 a n c bs k g0 g1 g2 g3 x w h hl hn hc c0 c1 c2 c3 f3
  | 2, _, c0 => exact got1_2 a n c bs k g0 g1 g2 g3 x w h hl hn hc c0 c1 c2 c3 f3
  | 3, _, c0 => exact got1_3 a n c bs k g0 g1 g2 g3 x w h hl hn hc c0 c1 c2 c3 f3
  | 4, _, c0 => exact got1_4 a n c bs k g0 g1 g2 g3 x w h hl hn hc c0 c1 c2 c3 f3

theorem enter_got1 (args : Array Value) (w : World) : (callFunc 34 args).run Try.prog w = .ok (.enter 34 args) w := by kernel_rfl

set_option maxRecDepth 100000 in
set_option maxHeartbeats 800000 in
theorem got_any (a : Option Addr) (n c kind : Nat) (bs : List UInt8) (k : Int) (w : World) (hkd : kind ≤ 4) (h : Has w a (bytesV bs)) (hl : bs.length = n) (hn : n ≤ c) (hc : c ≤ maxLen) :
    Calls Try.prog 14 #[.slice a n c, .int .i64 kind, .int .i64 k] w fun e w' =>
      (e = .returned (.tuple #[.int .i64 (kindNum bs kind k.toNat), .bool true]) ∧ (0 ≤ k ∧ k + kindSize kind ≤ n) ∧ Below w.heap.size w w') ∨ (e = .returned (.tuple #[.int .i64 0, .bool false]) ∧ ¬ (0 ≤ k ∧ k + kindSize kind ≤ n) ∧ Below w.heap.size w w') := by
  have HH := Lib.hid h
  have HL := Lib.hid hl
  clear h hl
  have hAC := allocC
  have hAF := allocF
  have hmf : ∀ (fn : Fn) (first cap : Array Value) (w : World), (Instr.makeFunc fn first cap).run Try.prog w = .ok (.func fn first cap) w := fun _ _ _ _ => rfl
  go_enter Try.func14, Try.ntmps14
  go_wp2_with (first | (go_at_call 23; refine (of_any _ _ _ _).mono ?_; rintro e w1 ⟨rfl, hb1⟩; have h1c := bc hb1; have h1f := bf hb1; have h1z := hb1.size; try simp only [World.size_alloc] at h1z))
  have hW : ∀ b, b < w.heap.size + 1 + 1 + 1 → ¬ b = w1.heap.size := by intro b hb; omega
  have d0 : ∀ v, (w1.alloc (Obj.cells #[v] 47)).cell? ⟨w.heap.size, 0, none⟩ = some (.int .i64 kind) := fun v => by
    rw [allocC, if_neg (hW _ (by omega)), h1c, if_pos (by simp; omega)]; simp [hAC]; (try (intro; omega))
  have d1 : ∀ v, (w1.alloc (Obj.cells #[v] 47)).cell? ⟨w1.heap.size, 0, none⟩ = some v := fun v => by
    rw [allocC, if_pos rfl]; rfl
  have d2 : ∀ v, (w1.alloc (Obj.cells #[v] 47)).cell? ⟨w.heap.size + 1, 0, none⟩ = some (.int .i64 k) := fun v => by
    rw [allocC, if_neg (hW _ (by omega)), h1c, if_pos (by simp)]; simp [hAC]; (try (intro; omega))
  have d3 : ∀ v, (w1.alloc (Obj.cells #[v] 47)).cell? ⟨w.heap.size + 1 + 1, 0, none⟩ = some (.int .i64 0) := fun v => by
    rw [allocC, if_neg (hW _ (by omega)), h1c, if_pos (by simp)]; simp [hAC]; (try (intro; omega))
  have d4 : ∀ v, (w1.alloc (Obj.cells #[v] 47)).frozen? ⟨w.heap.size + 1 + 1, 0, none⟩ = false := fun v => by
    rw [allocF, if_neg (hW _ (by omega)), h1f, if_pos (by simp)]; simp [hAF]
  have hlt : w.heap.size + 1 + 1 < (w1.alloc (Obj.cells #[.slice a n c] 47)).heap.size := by simp; omega
  refine (try_any _ _ _ (fun ok w' => (ok = true ↔ (0 ≤ k ∧ k + kindSize kind ≤ n)) ∧ CellR (w1.alloc (Obj.cells #[.slice a n c] 47)) ⟨w.heap.size + 1 + 1, 0, none⟩ (.int .i64 (kindNum bs kind k.toNat)) ok w') (enter_got1 _)
    ((got1_any a n c kind bs k _ _ _ _ _ _ hkd (HH.out.below (by repeat (first | exact brefl _ | assumption | refine balloc ?_ _ | refine bdrew ?_ _ | refine bdrew1 ?_ | refine bthen ?_ (by assumption) | refine Below.trans ?_ (by assumption) | (refine bset ?_ (by first | (simp; done) | (simp; omega)) _)))) HL.out hn hc (d0 _) (d1 _) (d2 _) (d3 _) (d4 _)).mono ?_)).mono ?_
  · rintro e w2 (⟨he, hk, hr⟩ | ⟨he, hk, hr⟩)
    · exact .inl ⟨he, by simp [hk], hr⟩
    · exact .inr ⟨he, by simp; omega, hr⟩
  · have hD3 := d3 (.slice a n c)
    have hD4 := d4 (.slice a n c)
    clear d0 d1 d2 d3 d4 hW h1c h1f
    rintro e w2 ⟨ok, rfl, hk, hr⟩
    rcases hr with ⟨rfl, W1, hb2, rfl⟩ | ⟨rfl, hb2⟩
    · have e3 := (hb2.cell (p := ⟨w.heap.size + 1 + 1, 0, none⟩) hlt).trans hD3
      have f3 := (hb2.frozen (p := ⟨w.heap.size + 1 + 1, 0, none⟩) hlt).trans hD4
      have HK := Lib.hid (hk.1 rfl)
      clear hk hD3 hD4
      go_wp2
      exact bodyPost_ret (v := .tuple #[.int .i64 (kindNum bs kind k.toNat), .bool true]) (by simp [results, Try.results14, go_sem, e3]) rfl (.inl ⟨rfl, HK.out, (by repeat (first | exact brefl _ | assumption | refine balloc ?_ _ | refine bdrew ?_ _ | refine bdrew1 ?_ | refine bthen ?_ (by assumption) | refine Below.trans ?_ (by assumption) | (refine bset ?_ (by first | (simp; done) | (simp; omega)) _)))⟩)
    · have e3 := (hb2.cell (p := ⟨w.heap.size + 1 + 1, 0, none⟩) hlt).trans hD3
      have f3 := (hb2.frozen (p := ⟨w.heap.size + 1 + 1, 0, none⟩) hlt).trans hD4
      have hk' : ¬ (0 ≤ k ∧ k + kindSize kind ≤ n) := fun h => by have := hk.2 h; cases this
      have HK := Lib.hid hk'
      clear hk hk' hD3 hD4
      go_wp2
      exact bodyPost_ret (v := .tuple #[.int .i64 0, .bool false]) (by simp [results, Try.results14, go_sem, e3]) rfl (.inr ⟨rfl, HK.out, (by repeat (first | exact brefl _ | assumption | refine balloc ?_ _ | refine bdrew ?_ _ | refine bdrew1 ?_ | refine bthen ?_ (by assumption) | refine Below.trans ?_ (by assumption) | (refine bset ?_ (by first | (simp; done) | (simp; omega)) _)))⟩)
end Go.Proofs.Ytfgkmgabldjpaaa
