/- Joined from: VCut. -/
import Derived.Test.YtlhnfpkenlenjaaDoorJ01
import Derived.Test.YtlhnfpkenlenjaaDoorShelf
import Derived.Lib.IndexLaws
import Derived.Lib.CutLaws
section

/- strings.Cut at the letter x. Condition: the letters ahead of it aren't x; sizes. -/
namespace Go.Proofs.YtlhnfpkenlenjaaDoor
open Go.RowKit Go.Lib

theorem indexByte_at (P Q : List UInt8) (c : UInt8) (h : ∀ b ∈ P, b ≠ c) : Lib.indexByte (P ++ c :: Q) c = (P.length : Nat) := by
  induction P with
  | nil => simp [Lib.indexByte]
  | cons b P ih =>
    have hb : (b == c) = false := by simpa using h b (by simp)
    have := ih fun x hx => h x (by simp [hx])
    rw [List.cons_append, Lib.indexByte, hb, this]
    have h1 : (((P.length : Nat) : Int) == -1) = false := by simp
    simp [h1]
set_option maxRecDepth 100000 in
theorem index_x (P Q : List UInt8) (h : ∀ b ∈ P, b ≠ 120) (w : World) :
    Calls Tryd.prog 78 #[.string (str (P ++ 120 :: Q)), .string ⟨#[120]⟩] w fun e w' => e = .returned (.int .i64 (P.length : Nat)) ∧ w' = w := by
  have HI := Lib.hid (fun c w => Tryd.stringslite_IndexByte (str (P ++ 120 :: Q)) c w)
  have hx := indexByte_at P Q 120 h
  have HX := Lib.hid (show ∀ c, c = 120 → Lib.indexByte (str (P ++ 120 :: Q)).data.toList c = (P.length : Nat) from fun c hc => hc ▸ hx)
  have HP := Lib.hid (show ([120] == (str (P ++ 120 :: Q)).toList) = true → P.length = 0 from fun e => by
    have e' := eq_of_beq e
    rw [ByteArray.toList_eq] at e'
    have := congrArg List.length e'
    simp [str] at this
    omega)
  clear h hx
  generalize str (P ++ 120 :: Q) = s at *
  cases hb : ([120] == s.toList) with
  | true =>
    have hp := HP.out hb
    clear HP HI HX
    go_enter Tryd.func78, Tryd.ntmps78
    go_wp2_with fail
    go_ret
    exact ⟨by rw [hp]; rfl, rfl⟩
  | false =>
    clear HP
    go_enter Tryd.func78, Tryd.ntmps78
    go_wp2_with (go_at_call 86; (with_reducible refine (HI.out _ _).mono ?_); rintro e w_ ⟨rfl, rfl⟩)
    go_ret
    refine ⟨?_, rfl⟩
    show Ending.returned (.int .i64 (Lib.indexByte s.data.toList (({ data := #[120] } : ByteArray)[0]'(by decide)))) = _
    rw [HX.out _ (by decide)]
theorem str_size (l : List UInt8) : (str l).size = l.length := by simp [str, ByteArray.size]
theorem str_extract (l : List UInt8) (a b : Nat) : (str l).extract a b = str ((l.drop a).take (b - a)) := by
  rw [Lib.extract_eq]
  rfl
set_option maxRecDepth 100000 in
theorem cutx_any (P Q : List UInt8) (h : ∀ b ∈ P, b ≠ 120) (hn : P.length + Q.length ≤ 1000) (w : World) :
    Calls Tryd.prog 59 #[.string (str (P ++ 120 :: Q)), .string ⟨#[120]⟩] w fun e w' => e = .returned (.tuple #[.string (str P), .string (str Q), .bool true]) ∧ Below w.heap.size w w' := by
  have HI := Lib.hid (fun w => index_x P Q h w)
  obtain ⟨s, hs⟩ : ∃ s, s = str (P ++ 120 :: Q) := ⟨_, rfl⟩
  have hz : s.size = P.length + Q.length + 1 := by rw [hs, str_size]; simp; omega
  have he1 : s.extract 0 P.length = str P := by rw [hs, str_extract]; simp
  have he2 : s.extract (P.length + 1) s.size = str Q := by
    rw [hz, hs, str_extract, show P ++ 120 :: Q = (P ++ [120]) ++ Q by simp, List.drop_left' (by simp)]
    rw [List.take_of_length_le (by omega)]
  rw [← hs] at HI ⊢
  have c1 : (0 : Int) ≤ ((P.length : Nat) : Int) := by omega
  have c2 : ((P.length : Nat) : Int) ≤ ((s.size : Nat) : Int) := by omega
  have c3 : (0 : Int) ≤ ((P.length : Nat) : Int) + 1 := by omega
  have c4 : ((P.length : Nat) : Int) + 1 ≤ ((s.size : Nat) : Int) := by omega
  have HZ := Lib.hid hz
  have mixed : Tryd.prog.follows Departure.mixedOrders = true := by kernel_rfl
  have HE1 := Lib.hid he1
  have HE2 := Lib.hid he2
  clear hs h he1 he2 hz
  go_enter Tryd.func59, Tryd.ntmps59
  go_wp2_with (go_at_call 78; (with_reducible refine (HI.out _).mono ?_); rintro e w_ ⟨rfl, rfl⟩)
  go_region_o
  go_wp2
  go_ret3
  exact ⟨by
    show Ending.returned (.tuple #[.string (s.extract 0 P.length), .string (s.extract (P.length + 1) s.size), .bool true]) = _
    rw [HE1.out, HE2.out], bdrew1 (brefl _)⟩
set_option maxRecDepth 100000 in
theorem cut_any (P Q : List UInt8) (h : ∀ b ∈ P, b ≠ 120) (hn : P.length + Q.length ≤ 1000) (w : World) :
    Calls Tryd.prog 43 #[.string (str (P ++ 120 :: Q)), .string ⟨#[120]⟩] w fun e w' => e = .returned (.tuple #[.string (str P), .string (str Q), .bool true]) ∧ Below w.heap.size w w' := by
  have HI := Lib.hid (fun w => cutx_any P Q h hn w)
  generalize str (P ++ 120 :: Q) = s at *
  clear h hn
  go_enter Tryd.func43, Tryd.ntmps43
  go_wp2_with (go_at_call 59; (with_reducible refine (HI.out _).mono ?_); rintro e w1 ⟨rfl, hb1⟩)
  go_ret3
  exact ⟨rfl, hb1⟩
end Go.Proofs.YtlhnfpkenlenjaaDoor
end
