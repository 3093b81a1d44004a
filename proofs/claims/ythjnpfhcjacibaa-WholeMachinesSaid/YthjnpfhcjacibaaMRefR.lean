
/- The contract of the reference's needs of layer 7. Conditions: as many bytes as the slice says, no more than 2000; all numbers there. The contract of the reference's Read of layer 7. Conditions: as many bytes as the slice says, no more than 2000; glyphs from 1 to 65535, words from 0 to 2. -/
import Derived.Test.YthjnpfhcjacibaaMGet
import Derived.Test.YthjnpfhcjacibaaSRef
import Derived.Test.YthjnpfhcjacibaaLRefS
namespace Go.Proofs.Ythjnpfhcjacibaa
open Go.RowKit Go.Lib

def mrefA (a : Option Addr) (n c C R E S N k : Nat) (aT : Option Addr) (nT cT : Nat) (a' : Option Addr) (L c' : Nat) : Array Value := #[.slice a n c, .int .i64 (C : Nat), .int .i64 (R : Nat), .int .i64 (E : Nat), .int .i64 (S : Nat), .int .i64 (N : Nat), .int .i64 (k : Nat), .slice aT nT cT, .slice a' L c']
def zeroMV : Value := .agg #[.slice none 0 0, .int .i64 0, .int .i64 0, .int .i64 0, .int .i64 0, .int .i64 0, .int .i64 0, .slice none 0 0, .slice none 0 0]
def RefMIs (a : Option Addr) (n c : Nat) (bs : List UInt8) (glyphs k : Nat) (w : World) (e : Ending) (w' : World) : Prop :=
  ((∃ rs S a' c', MOk bs glyphs k rs S ∧ e = .returned (.tuple #[.agg (mrefA a n c (num bs 0 4) (num bs 8 4) (num bs 12 4) S (needE bs S) k (adv a c (num bs 4 4)) (n - num bs 4 4) (c - num bs 4 4) a' rs.length c'), .bool true])) ∨
   ((∀ rs S, ¬ MOk bs glyphs k rs S) ∧ e = .returned (.tuple #[zeroMV, .bool false]))) ∧ Below w.heap.size w w'
def RefMIsN (a : Option Addr) (n c : Nat) (bs : List UInt8) (glyphs k : Nat) (w : World) (e : Ending) (w' : World) : Prop :=
  ((∃ rs S a' c', MOk bs glyphs k rs S ∧ e = .returned (.tuple #[.agg (mrefA a n c (num bs 0 4) (num bs 8 4) (num bs 12 4) S (needE bs S) k (adv a c (num bs 4 4)) (n - num bs 4 4) (c - num bs 4 4) a' rs.length c'), .bool true]) ∧ HasN w.heap.size w' a' (encRs rs)) ∨
   ((∀ rs S, ¬ MOk bs glyphs k rs S) ∧ e = .returned (.tuple #[zeroMV, .bool false]))) ∧ Below w.heap.size w w'
structure RInv (bs : List UInt8) (k s nn : Nat) : Prop where
  two : 2 ≤ s
  le : s ≤ 65536
  ents : nn ≤ needE bs s
  least : ∀ S', MClosed bs k S' → s ≤ S'
def rMeas (g : Nat) (ok : Value) (w : World) : Nat := match ok, w.cell? ⟨g, 4, none⟩, w.cell? ⟨g, 5, none⟩ with
  | .bool true, some (.int _ s), some (.int _ n) => (65537 - s.toNat) + (65537 - n.toNat)
  | _, _, _ => 0
theorem rMeas_false (g : Nat) (w : World) : rMeas g (.bool false) w = 0 := rfl
theorem rMeas_true {g s n : Nat} {w : World} (h4 : w.cell? ⟨g, 4, none⟩ = some (.int .i64 (s : Nat))) (h5 : w.cell? ⟨g, 5, none⟩ = some (.int .i64 (n : Nat))) : rMeas g (.bool true) w = (65537 - s) + (65537 - n) := by
  unfold rMeas
  rw [h4, h5]
  rfl
theorem RInv.next {bs : List UInt8} {k s nn : Nat} (h : RInv bs k s nn) : RInv bs k (max s (needS bs k (needE bs s))) (needE bs s) := by
  have h2 := h.two
  have h9 := needS_le bs k (needE bs s)
  have hle := h.le
  refine ⟨by omega, by omega, needE_mono bs (Nat.le_max_left _ _), fun S' hS => ?_⟩
  have h3 := h.least S' hS
  have h4 := needS_mono bs k (needE_mono bs h3)
  have h5 := hS.2
  omega
theorem RInv.done {bs : List UInt8} {k s nn : Nat} (h : RInv bs k s nn) (h1 : max s (needS bs k (needE bs s)) = s) (_h2 : needE bs s = nn) : MLeast bs k s :=
  ⟨⟨h.two, by omega⟩, h.least⟩
theorem entL (bs : List UInt8) : (fun i => num bs (num bs 8 4 + i * 2) 2) = entN bs := by
  funext i
  unfold entN
  rw [Nat.mul_comm]
theorem nextL (bs : List UInt8) (k : Nat) : (fun i => num bs (num bs 12 4 + i * (4 + 2 * k)) 2) = nextN bs k := rfl
theorem HasN.below {B : Nat} {w w' : World} {a : Option Addr} {xs : List Value} (h : HasN B w a xs) (hb : Below w.heap.size w w') : HasN B w' a xs := ⟨h.1.below hb, h.2⟩
theorem HasN.mono {B B' : Nat} {w : World} {a : Option Addr} {xs : List Value} (h : HasN B w a xs) (hb : B' ≤ B) : HasN B' w a xs := ⟨h.1, fun hx p hp => Nat.le_trans hb (h.2 hx p hp)⟩
theorem HasN.set {B : Nat} {w : World} {a : Option Addr} {xs : List Value} (h : HasN B w a xs) {g o : Nat} (hg : g < B) (v : Value) : HasN B (w.setCell ⟨g, o, none⟩ v) a xs := ⟨has_set h.1 (fun hx p hp hb => by have := h.2 hx p hp; omega) v, h.2⟩
theorem HasN.drew {B : Nat} {w : World} {a : Option Addr} {xs : List Value} (h : HasN B w a xs) : HasN B w.drew a xs := h.below (bdrew1 (brefl _))
theorem fitK_iff {n P s z : Nat} (hP : P ≤ n) (hz : 0 < z) : fitK n 2 (P : Int) (s : Int) (z : Int) ↔ s * z ≤ n - P := by
  simp only [fitK, Int.toNat_natCast]
  rw [← Nat.le_div_iff_mul_le hz]
  constructor
  · rintro ⟨_, _, _, _, h | h⟩
    · omega
    · exact h
  · intro h
    exact ⟨by omega, by omega, by omega, by omega, .inr h⟩
end Go.Proofs.Ythjnpfhcjacibaa
